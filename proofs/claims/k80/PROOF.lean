import PyProof.Rows.All
import Wide.All
import OpenK.AllK
import Wide.FinOn
import HandS.ForMost
import HandS.IsInst
import HandS.Wide
import HandS.TupAny
import HandS.TupMul
import HandS.RaiseMore
import HandS.Conv
import HandS.Strs
import PyProof.ReprLen
import HandS.Zip
import HandS.Walk
import HandS.Style
import KE.GoesNew
import KE.IntTextLaws
import PyProof.StrBlock2
import HandS.Text
import HandS.Steps
import KE.GoesEnum
import PyProof.EnumMake
import HandS.Dict
import KE.KDictZip
import HandS.TryOnly
import KE.KDictItemsList
import HandS.SetFor
import PyProof.Rows.IntBool
import PyProof.CallStr
import PyProof.PureInt
import PyProof.FactsAll.bool_2
import PyProof.Rows.RuleB_bool
import HandS.Defaults
import KE.SortData
import PyProof.Transfer
import HandS.TupSets
import KE.KDictKeyed
import KE.KDictLaws
import KE.DataFind
import HandS.Flow
import KE.KDictCopyH
import KE.KDictSum
import KE.KEqDict
import HandS.DictTup
import HandS.Deep
import PyProof.Rows.StrFit
import PyProof.Rows.EqBoolInt
import PyProof.DictMoreH
import PyProof.DictRoadsH
import KE.DataCmp
import KE.DatumOrd
import KE.KTupSum
import HandS.Small
import HandS.DictComp
import HandS.WideBits
import HandS.Iter
import KE.KExcSuper
import KE.KExcPX
import HandS.Exc
import HandS.ExcInit
import HandS.ExcField
import HandS.ExcIs
import HandS.ExcSuper
import KE.KExcIs
import KE.DataMinMax
import HandS.TupLen
import KE.KDictPairs
import HandS.More
import HandS.Remove
import PySem.Challenge.RW_wholeturn_k80_whole_all_turnings_of_smal
set_option Elab.async false
set_option linter.all false
set_option maxRecDepth 100000
set_option maxHeartbeats 4000000
namespace HdL
open PySem PySem.W PyProof.Rows
set_option maxHeartbeats 0 in
open_top hd for PySem.Challenge.rw_wholeturn_k80_whole_all_turnings_of_smal
end HdL
namespace Wt
open PySem PySem.Spec PyProof.Rows L2
structure FnG (P : Program) (w : World) (K : PySem.W.Frag)
    (mg : Str → Option Value) (base : Heap) (CX : CXT)
    (k : Nat) (f : Addr) (fd : FuncData) (ps : List Str)
    (sp : Sp) : Prop where
  len : ∀ vs H Q E, sp vs H Q E → vs.length = ps.length
  run : ∀ (A : Around) (outer : List Env) (s : Shared) (H : Hp)
    (args : Args) (us : List Value) (vs : List V) (Q : VK) (E : XK),
    A.guards = some [] → Room k A →
    Env0 P w K mg base A outer s H →
    BindsTo s fd args (ps.zip us) → Vals vs us → sp vs H Q E →
    codeAny (model P w) A (.call (.ref f) args)
      (CR CX outer P w H s Q E) s
section
variable {P : Program} {w : World} {K : PySem.W.Frag}
variable {mg : Str → Option Value} {base : Heap} {CX : CXT}
variable {j k : Nat} {f : Addr} {fd : FuncData} {ps : List Str} {sp : Sp}
theorem FnG.of (F : FnOk P w K mg base CX k f fd ps sp) :
    FnG P w K mg base CX k f fd ps sp :=
  ⟨F.len, fun A o s H a us vs Q E _ => F.run A o s H a us vs Q E⟩
theorem FnG.mono (F : FnG P w K mg base CX j f fd ps sp) (h : j ≤ k) :
    FnG P w K mg base CX k f fd ps sp :=
  ⟨F.len, fun A o s H a us vs Q E g r =>
    F.run A o s H a us vs Q E g (r.mono h)⟩
/-- a def of the text, its body read where no repr is under way -/
theorem okG {x qual : Str} {st : Stmt} {N : List Str}
    (F : Fun K x qual st f fd) (S : FnScope N ps (defScope st))
    (len : ∀ vs H Q E, sp vs H Q E → vs.length = ps.length)
    (hbody : ∀ (cdv : Value) (A : Around) (outer : List Env)
      (s : Shared) (H : Hp) (vs : List V) (Q : VK) (E : XK),
      A.guards = some [] →
      Room k (A.deeper
        (envOfC qual (defScope st) s.heap.objs.size f cdv)) →
      sp vs H Q E →
      ∃ t, PSs (cxOf CX0 P w K mg base N qual (defScope st) f cdv A
          outer s H E).nox (defBody st) t ∧
        t { nx := fun _ H' => Q .non H', rt := Q } (start N vs) H) :
    FnG P w K mg base CX0 (k + 1) f fd ps sp := by
  obtain ⟨oc, od, kV, doc, pm, an, cdv, ct, osl, rfl, lk, hcd⟩ := F.ex
  refine ⟨len, ?_⟩
  intro A outer s H args us vs Q E hG hr e0 hb r hsp
  have stays : ∀ b o, base.get? b = some o → s.heap.get? b = some o :=
    fun b o e => (e0.bs b o e).1
  have KX : K.In s.heap := e0.mod.kin.keeps stays
  have lim : s.heap.NoLimit := e0.mod.nolimit.keeps stays
  refine codeAny_call_function hr.depth (KX _ _ lk) rfl S.co S.gen rfl
    (PySem.W.codeRec_of KX hcd) (hb _ _ _ _ ?_)
  refine wpAny_newFunctionEnv_cells S.kind (fun y hy => ?_)
    fun env he s1 inc => ?_
  · rcases S.par y.1 (List.of_mem_zip (a := y.1) (b := y.2) hy).1 with q | q
    · exact .inl q
    · exact .inr ⟨q, PySem.W.cellsFrom_some _ _ _ (.inl q)⟩
  · subst he
    refine ⟨lim.keeps inc.toInCall.keep, codeAny_func ?_⟩
    obtain ⟨t, ht, hq⟩ := hbody cdv A outer s H vs Q E hG (hr.deeper _) hsp
    have I := inv_start (CX := CX0) (E := E) S hr.hd e0
      (len _ _ _ _ hsp) r inc
    refine wpAny_mono (ht.nox.run [] s1 (start N vs) H _ I hq)
      (fun fl s' hs => ?_) fun e s' hs => hs
    cases fl with
    | ret u =>
      obtain ⟨v, σ', H', J, rv, q⟩ := hs
      exact ⟨v, H', J.os, J.bare, J.base, J.hok, rv, q⟩
    | next =>
      obtain ⟨σ', H', J, q⟩ := hs
      exact ⟨V.non, H', J.os, J.bare, J.base, J.hok, rfl, q⟩
    | brk => exact hs.elim fun _ h => h.elim fun _ z => z.2.elim
    | cont => exact hs.elim fun _ h => h.elim fun _ z => z.2.elim
end
section
variable {X : Cx} {CX : CXT} {k : Nat} {f : Addr} {fd : FuncData}
variable {ps : List Str} {sp : Sp} {dvs : List V} {ds : List Value}
variable {E : XK} {x : Str} {p pos : Pos} {e : Expr} {es : List Expr}
variable {t : TA}
end
/-- the law's own call, its def of this kind -/
theorem law_callG {P : Program} {w : World} {K : PySem.W.Frag}
    {mg mb : Str → Option Value} {CX : CXT} {k : Nat} {fa a : Addr}
    {fd : FuncData} {x : Str} {sp : Sp} {s1 : Shared} {vs : List Value}
    {ns : List Int}
    (KX : K.In s1.heap) (hns : s1.heap.Ns mainGlobals mg)
    (hb : s1.heap.Ns builtinsNs mb)
    (hbb : ∀ x : Str, x ≠ "__name__" → mb x = bootBuiltins x)
    (hlim : s1.heap.NoLimit) (hg : s1.gens = #[])
    (ha : s1.heap.get? a =
      some { cls := .type "list", data := .seq vs.toArray })
    (hi : IntsAre vs ns) (hl : ns.length ≤ sizeLine)
    (hr : Room k callerA)
    (F : ∀ base : Heap, K.In base → base.Ns mainGlobals mg →
      FnG P w K mg base CX k fa fd [x] sp)
    (hbind : ∀ (s : Shared) (u : Value), BindsTo s fd ⟨[u], []⟩ [(x, u)])
    (hsp : ∀ H : Hp, Only H → SqL K H a (ns.map V.int) →
      sp [.ref a] H (fun v _ => v = .bl true) fun _ _ _ => False)
    (hCX : ∀ H e s', CX [] H s1 (fun _ _ _ => False) e s' → False) :
    codeAny (model P w) callerA (.call (.ref fa) ⟨[.ref a], []⟩)
      (fun r s' => r = .ok (.ret (.bool true)) ∧ OldK s1.heap s'.heap ∧
        s'.os = s1.os ∧ AllBare s'.gens) s1 := by
  have rv := vals_ints hi
  have main : ∀ H : Hp, Only H → SqL K H a (ns.map V.int) →
      HOk P w H s1.heap → (∀ b, H b ≠ none → b = a ∧ K.lookup b = none) →
      codeAny (model P w) callerA (.call (.ref fa) ⟨[.ref a], []⟩)
        (fun r s' => r = .ok (.ret (.bool true)) ∧ OldK s1.heap s'.heap ∧
          s'.os = s1.os ∧ AllBare s'.gens) s1 := by
    intro H hO hS hok hA
    have dictFree : ∀ {b : Addr} {o : Obj} {es : Array DictEntry} {n : Nat},
        s1.heap.get? b = some o → o.data = .dict es n → H b = none := by
      intro b o es n e d
      cases q : H b with
      | none => rfl
      | some u =>
        have eb := (hA b (by rw [q]; exact nofun)).1
        subst eb
        rw [ha] at e
        cases e
        exact nomatch d
    have nsK : ∀ {b : Addr} {m : Str → Option Value},
        s1.heap.Ns b m → (hidT s1.heap H).Ns b m := by
      intro b m ⟨o, es, ep, e, d, r⟩
      exact ⟨o, es, ep, hidT_get e (dictFree e d), d, r⟩
    have hKb : K.In (hidT s1.heap H) := by
      intro b o e
      refine hidT_get (KX b o e) ?_
      cases q : H b with
      | none => rfl
      | some u =>
        rw [(hA b (by rw [q]; exact nofun)).2] at e
        cases e
    obtain ⟨mc, l1, l2⟩ := hlim
    have hM : Mod K mg (hidT s1.heap H) :=
      ⟨hKb, nsK hns, ⟨mb, nsK hb, hbb⟩, ⟨mc, nsK l1, l2⟩⟩
    have e0 : Env0 P w K mg (hidT s1.heap H) callerA [] s1 H :=
      { frames := rfl, mod := hM, bs := fun b o e => of_hidT e,
        bsz := Nat.le_of_eq (hidT_size _ _), funs := trivial,
        frf := fun b z => (nomatch z), hok := hok, bare := .of_eq hg }
    have go := (F _ hKb (nsK hns)).run callerA [] s1 H ⟨[.ref a], []⟩
      [.ref a] [.ref a] _ _ rfl hr e0 (hbind s1 (.ref a))
      (.cons rfl .nil) (hsp H hO hS)
    refine codeAny_mono go fun res s' h => ?_
    match res, h with
    | .error e, h => exact (hCX H e s' h).elim
    | .ok .next, h => exact False.elim h
    | .ok .brk, h => exact False.elim h
    | .ok .cont, h => exact False.elim h
    | .ok (.ret u), h =>
      obtain ⟨v, H', os, bare, un, hok', r', q⟩ := h
      cases (show v = .bl true from q)
      obtain rfl : u = Value.bool true := r'
      refine ⟨rfl, OldK.of_keep fun b o e => ?_, os, bare⟩
      rcases hO b with z | ⟨ob, xs, z⟩
      · exact un.keep b o e z (fun m => nomatch m) (fun m => nomatch m)
      · have z1 := (hok b _ z).1
        rw [e] at z1
        cases z1
        exact (hok' b _ (un.frzs b _ _ z)).1
  cases hk : K.lookup a with
  | some o =>
    have e := KX a o hk
    rw [ha] at e
    cases e
    refine main (fun _ => none) (fun _ => .inl rfl) (.inr ?_)
      (fun b u z => (nomatch z)) (fun b z => absurd rfl z)
    refine ⟨_, vs.toArray, _, hk, rfl, rfl, rfl, ?_, by simpa using rv⟩
    rw [List.size_toArray, hi.length]
    exact hl
  | none =>
    let ob : Obj := { cls := .type "list", data := .seq vs.toArray }
    let H0 : Hp := fun b =>
      if b = a then some (.frz ob (.lst (ns.map V.int))) else none
    have at_a : H0 a = some (.frz ob (.lst (ns.map V.int))) := if_pos rfl
    have off_a : ∀ b, b ≠ a → H0 b = none := fun b h => if_neg h
    refine main H0 (fun b => ?_) (.inl (.inr ⟨ob, at_a⟩))
      (fun b u z => ?_) (fun b z => ?_)
    · by_cases h : b = a
      · subst h
        exact .inr ⟨_, _, at_a⟩
      · exact .inl (off_a b h)
    · by_cases h : b = a
      · subst h
        rw [at_a] at z
        cases z
        refine ⟨ha, ?_, vs, _, rv, ha⟩
        rw [List.length_map]
        exact hl
      · rw [off_a b h] at z
        cases z
    · by_cases h : b = a
      · subst h
        exact ⟨rfl, hk⟩
      · exact absurd (off_a b h) z
theorem walkG {l : PySem.W.OpenLaw} {n k : Nat} {q : Program}
    {loose : List Str} {XP : (Str → Option Value) → Heap → Prop}
    {YP : World → Heap → Prop} {d : DefRec} {K : Params → PySem.W.Frag}
    {sp : PySem.W.Frag → Sp} {x : Str}
    (hn : l.most = some n) (hn2 : n ≤ sizeLine)
    (hdf : d.params.defaults = []) (hr : Room k callerA)
    (hY : ∀ (w : World) (h : Heap), YP w h → (K w.params).In h)
    (F : ∀ (w : World) (mg : Str → Option Value) (fa : Addr) (h : Heap),
      (K w.params).In h → h.Ns mainGlobals mg →
      mg d.name = some (.ref fa) →
      ∃ fd : FuncData,
        (∀ (s : Shared) (u : Value), BindsTo s fd ⟨[u], []⟩ [(x, u)]) ∧
        ∀ base : Heap, (K w.params).In base → base.Ns mainGlobals mg →
          FnG l.prog w (K w.params) mg base CX0 k fa fd [x]
            (sp (K w.params)))
    (hsp : ∀ (K : PySem.W.Frag) (H : Hp) (a : Addr) (ns : List Int),
      ns.length ≤ n → Only H → SqL K H a (ns.map V.int) →
      sp K [.ref a] H (fun v _ => v = .bl true) fun _ _ _ => False) :
    PySem.W.WalkO q loose XP YP l.row.toRowW d []
      (fun f vs => PySem.call f vs) := by
  refine Att.attach_call hn hdf ?_
  intro w s0 s1 mg mb fa o pm cd doc a vs ns G Y ho hd hcd hmg hobj hints
    hlen hg
  obtain ⟨fd, hb, hF⟩ := F w mg fa _ (hY w _ Y) G.T.g hmg
  exact law_callG (hY w _ Y) G.T.g G.T.b G.T.builtins G.T.nolimit hg hobj
    hints (Nat.le_trans hlen hn2) hr hF hb
    (fun H hO hS => hsp _ H a ns hlen hO hS) fun H e s' z => z
end Wt

namespace Wt
open PySem PySem.Spec PyProof.Rows L2
def NewT (H : Hp) (xs : List V) (Q : VK) : Prop :=
  ∀ (p : Addr) (o : Obj), H p = none → o.dict = none →
    o.cls = .type "tuple" → Q (.ref p) (upd H p (.frz o (.tup xs)))
section
variable {X : Cx}
theorem ep_newT {pins : List (Addr × Obj)} {σ : L2.St} {H : Hp} {s : Shared}
    {xs : List V} {its : List Value} {n tk : Nat} {Q : VK}
    (I : Inv X pins σ H s) (hz : xs.length ≤ sizeLine) (r : Vals xs its)
    (q : NewT H xs Q) :
    EP X pins σ Q (.ref s.heap.objs.size) { s with heap := (s.heap.push
      (Obj.mk (.type "tuple") none (.seq its.toArray n) #[])), toks := tk } := by
  have g := Heap.get?_push_size s.heap
    (o := Obj.mk (.type "tuple") none (.seq its.toArray n) #[]) rfl
  refine ⟨.ref s.heap.objs.size, _, I.laid (t' := tk)
    (o := .frz (Obj.mk (.type "tuple") none (.seq its.toArray n) #[])
      (.tup xs)) (fun b ob e => Heap.get?_push_of_some _ e)
    (Nat.le_refl _) ?_, rfl, q _ _ (I.hok.fresh (Nat.le_refl _)) rfl rfl⟩
  exact ⟨g, hz, its, r, ⟨_, g, rfl, n, rfl⟩⟩
def tTupC (t : TA) : TE := fun σ H Q => t σ H fun xs H1 =>
  xs.length ≤ sizeLine ∧ NewT H1 xs Q
theorem pe_tupC {es : List Expr} {t : TA} {pos : Pos} {x1} (h : PA X es t) :
    PE X (.Tuple es x1 pos) (tTupC t) := by
  refine ⟨fun pins s σ H Q I hq => ?_⟩
  refine wpAny_Tuple_spliced (thn (h.run pos pins s σ H _ I hq)
    fun us s1 ⟨xs, H1, I1, r, z, q⟩ => ⟨by rw [← r.length]; exact z, ?_⟩)
  exact ep_newT I1 z r q
abbrev rTupC (K : PySem.W.Frag) : List V → Hp → VK → Prop := fun xs H Q =>
  ∃ p ys, xs = [.ref p] ∧ ((SqL K H p ys ∧ NewT H ys Q) ∨
    (SqT K H p ys ∧ Q (.ref p) H))
theorem call_tupC : CallR X (.type "tuple") (rTupC X.K) := by
  intro pins s σ H xs us Q I r h
  obtain ⟨p, ys, rfl, h⟩ := h
  obtain ⟨u, rfl, rx⟩ := vals1 r
  cases rx
  rcases h with ⟨hq, q⟩ | ⟨hq, q⟩
  · obtain ⟨its, r', pl, hz⟩ := I.list hq
    have hlen := r'.length
    refine call_tuple_list pl.isList (fun h' kp => ?_)
      (by simp only [List.size_toArray]; omega)
    have I1 : Inv X pins σ H { s with heap := h' } := I.kept (t' := s.toks) kp
    exact ep_newT I1 hz r' q
  · obtain ⟨its, r', pl, hz⟩ := I.tuple hq
    exact call_tuple_same pl ⟨.ref p, H, I, rfl, q⟩
def rCatC (K : PySem.W.Frag) : R2 := fun x y H Q => ∃ a b xs ys,
  x = .ref a ∧ y = .ref b ∧ SqT K H a xs ∧ SqT K H b ys ∧
  xs.length + ys.length ≤ sizeLine ∧ (xs = [] → Q (.ref b) H) ∧
  (xs ≠ [] → ys = [] → Q (.ref a) H) ∧
  (xs ≠ [] → ys ≠ [] → NewT H (xs ++ ys) Q)
theorem op_catC : OpR X (binaryOp .Add) (rCatC X.K) := by
  intro pins s σ H x y v u Q I rx ry h
  obtain ⟨a, b, xs, ys, rfl, rfl, ha, hb, hz, q0, q1, q2⟩ := h
  cases rx
  cases ry
  obtain ⟨its, r1, p1, _⟩ := I.tuple ha
  obtain ⟨its2, r2, p2, _⟩ := I.tuple hb
  by_cases hx : xs = []
  · subst hx
    cases r1
    exact cat_tup0 p1 p2 ⟨.ref b, H, I, rfl, q0 rfl⟩
  · refine HT.cat_tup p1 p2 (fun z => hx (r1.nil_iff.mp z))
      (fun z => ⟨.ref a, H, I, rfl, q1 hx (r2.nil_iff.mp z)⟩) (fun z => ?_)
      (by rw [← r1.length, ← r2.length]; exact hz)
    exact ep_newT (tk := s.toks) I (by rw [List.length_append]; exact hz)
      (r1.append r2) (q2 hx fun w => z (r2.nil_iff.mpr w))
def rSlC (K : PySem.W.Frag) : V → Option Int → Option Int → Hp → VK → Prop :=
  fun x lo hi H Q => ∃ a xs, x = .ref a ∧ SqT K H a xs ∧
  (HT.sIx xs.length 0 lo = 0 ∧ HT.sIx xs.length xs.length hi = xs.length →
    Q (.ref a) H) ∧
  (¬ (HT.sIx xs.length 0 lo = 0 ∧ HT.sIx xs.length xs.length hi = xs.length) →
    NewT H (cutV xs lo hi) Q)
theorem sl_tupC : SlR X (rSlC X.K) := by
  intro pins s σ H x v vl vu lo hi sl Q I rx hs pl pu h
  obtain ⟨a, xs, rfl, hx, q1, q2⟩ := h
  cases rx
  obtain ⟨its, r, ht, hz⟩ := I.tuple hx
  have hlen : its.toArray.size = xs.length := by
    rw [List.size_toArray]; exact r.length.symm
  refine ⟨"tuple", _, PyProof.Rows.slot_tuple_getitem.lookup, ht.typeIs, ?_⟩
  by_cases hw : HT.sIx xs.length 0 lo = 0 ∧
      HT.sIx xs.length xs.length hi = xs.length
  · exact getItem_tuple_whole ht hs pl pu (by rw [hlen]; exact hw)
      ⟨.ref a, H, I, rfl, q1 hw⟩
  · refine HT.getItem_tuple_cut ht hs pl pu (by rw [hlen]; exact hw) ?_
      (by rw [hlen]; exact hz)
    rw [hlen]
    exact ep_newT (tk := s.toks) I (Nat.le_trans (cutV_length xs lo hi) hz)
      ((r.drop (HT.sIx xs.length 0 lo)).take
        (HT.sIx xs.length xs.length hi - HT.sIx xs.length 0 lo)) (q2 hw)
def tTupRgC (te : L2.St → Hp → (Int → Int → Hp → Prop) → Prop) : TE :=
  fun σ H Q => te σ H fun a b H1 => RgOk a b ∧ NewT H1 (rgV a b) Q
theorem pe_tupRgC {e : Expr}
    {te : L2.St → Hp → (Int → Int → Hp → Prop) → Prop} {p pos : Pos}
    (hc : X.calm = true) (hg : Gl X "tuple") (hm : X.mg "tuple" = none)
    (he : PRg X e te) (na : starEach [e] X.env =
      (false, eval e X.env) :: starEach [] X.env := by rfl) :
    PE X (.Call (.Name "tuple" p) [e] [] pos) (tTupRgC te) := by
  refine ⟨fun pins s σ H Q I h => ?_⟩
  refine Call_ (ld_blt I hg hm boot_tuple (PyProof.Rows.callWith_type1
    (args_cons (thn (he pins s σ H _ I h)
      fun x s1 ⟨r, a, b, t, u, v, H1, ex, hr, I1, ok, q⟩ => args_nil ?_) na) na))
  subst ex
  obtain ⟨b1, b2, b3, b4, b5⟩ := ok
  refine call_tuple_range (n := (b - a).toNat) (I1.ok.hd hc) hr
    (small_one b1 b2 b3 b4) (rangeSize_nat a b) b5 fun h' tk acc hk hi => ?_
  have I2 : Inv X pins σ H1 { s1 with heap := h', toks := tk } := I1.kept hk
  have := ep_newT (its := acc.toList) (n := 0) (tk := tk) I2
    (by rw [rgV_length, sizeLine_eq]; omega) (vals_rg hi) q
  rw [Array.toArray_toList] at this
  exact this
/-- a tuple whose object has no dict -/
def Cln (H : Hp) (a : Addr) : Prop :=
  ∃ (o : Obj) (xs : List V), H a = some (.frz o (.tup xs)) ∧ o.dict = none
def tBMT (r : V → List V → Hp → VK → Prop) (to : TE) (t : TA) : TE :=
  fun σ H Q => to σ H fun x H1 => ∃ a, x = .ref a ∧ Cln H1 a ∧
    t σ H1 fun xs H2 => r x xs H2 Q
theorem pe_bmT {o e : Expr} {es : List Expr} {to : TE} {t : TA} {name : Str}
    {apos cpos : Pos} {id : String} {r : V → List V → Hp → VK → Prop}
    (pa : PlainAttrs "tuple") (slot : Slot "tuple" name id)
    (hty : typeOf (.builtin id) = pure (.type "method_descriptor"))
    (hm : MtR X id r) (ho : PE X o to) (ha : PA X (e :: es) t)
    (hbase : attributeBase o name X.env (eval o X.env) =
      eval o X.env := by rfl)
    (hfew : ((backTo cpos (starEach (e :: es) X.env)).all (fun x => !x.1) &&
      (backToKw cpos (keywordEach [] X.env)).all (fun x => x.1.isSome) &&
      decide ((e :: es).length + ([] : List Keyword).length +
        (if ([] : List Keyword).isEmpty then 0 else 1) < 30)) = true := by rfl)
    (hline : (apos.endLine == cpos.line) = true := by rfl)
    (hs : starEach (e :: es) X.env =
      (false, eval e X.env) :: starEach es X.env := by rfl)
    (hplain : (backTo cpos (starEach es X.env)).any (·.1) = false := by rfl) :
    PE X (.Call (.Attribute o name apos) (e :: es) [] cpos) (tBMT r to t) := by
  refine ⟨fun pins s σ H Q I h => ?_⟩
  refine wpAny_Call_method_late hbase hfew hline rfl
    (thn (ho.run pins s σ H _ I h) fun v s1 ⟨x, H1, I1, r1, a, ex, hc, q1⟩ => ?_)
  subst ex
  cases r1
  obtain ⟨ob, xs, hob, hdict⟩ := hc
  obtain ⟨g, _, its, _, o2, g2, hcls, _⟩ := I1.hok a _ hob
  rw [g] at g2
  cases g2
  refine ⟨"tuple", id, pa, slot, hty, ⟨ob, g, hcls⟩, fun b eb => ?_, ?_⟩
  · cases eb
    exact ⟨ob, g, hdict⟩
  have hA := ha.run cpos pins s1 σ H1 _ I1 q1
  rw [hs] at hA ⊢
  refine Calls.callWith_builtin (by
    show (false || (backTo cpos (starEach es X.env)).any (·.1)) = false
    rw [hplain]; rfl) (Calls.evalArgs_plain ?_)
  exact thn hA fun us s2 ⟨vs, H2, I2, r2, q2⟩ =>
    hm pins s2 σ H2 (.ref a) vs (.ref a) us Q I2 rfl r2 q2
end
end Wt

namespace Wt
open PySem PySem.Spec PyProof.Rows L2
inductive D where
  | non
  | bl (b : Bool)
  | int (i : Int)
  | str (x : Str)
  | lst (xs : List D)
  | tup (xs : List D)
  | dic (kis : List (Int × Int))
  | ins (C : Addr) (ns : List Str) (xs : List D)
  | scr (ns : List Int)
  | dct (ks : List Key) (xs : List D)
/-- the law's script: known to its object, or one of the module's own -/
def Scr (K : PySem.W.Frag) (B : Hp) (a : Addr) (xs : List V) : Prop :=
  (∃ o, B a = some (.frz o (.lst xs))) ∨
    ∃ (o : Obj) (its : Array Value) (n : Nat), K.lookup a = some o ∧
      o.cls = .type "list" ∧ o.dict = none ∧ o.data = .seq its n ∧
      its.size ≤ sizeLine ∧ Vals xs its.toList
theorem Scr.seq {K : PySem.W.Frag} {B H : Hp} {a : Addr} {xs : List V}
    (h : Scr K B a xs) (s : Same B H) : SqL K H a xs := by
  rcases h with ⟨o, h⟩ | h
  · exact .inl (.inr ⟨o, s _ _ h⟩)
  · exact .inr h
theorem Scr.mono {K : PySem.W.Frag} {B H : Hp} {a : Addr} {xs : List V}
    (h : Scr K B a xs) (s : Same B H) : Scr K H a xs := by
  rcases h with ⟨o, h⟩ | h
  · exact .inl ⟨o, s _ _ h⟩
  · exact .inr h
mutual
inductive Is (K : PySem.W.Frag) (B : Hp) : V → D → Prop
  | non : Is K B .non .non
  | bl (b : Bool) : Is K B (.bl b) (.bl b)
  | int (i : Int) : Is K B (.int i) (.int i)
  | str (x : Str) : Is K B (.str x) (.str x)
  | lst {a : Addr} {xs : List V} {ds : List D} :
      B a = some (.lst xs) → IsAll K B xs ds → Is K B (.ref a) (.lst ds)
  | tup {a : Addr} {xs : List V} {ds : List D} :
      SqT K B a xs → IsAll K B xs ds → Cln B a → Is K B (.ref a) (.tup ds)
  | dic {a : Addr} {kis : List (Int × Int)} :
      Rd B a (.dK (kis.map fun p => (Sum.inl p.1, V.int p.2))) →
      Is K B (.ref a) (.dic kis)
  | ins {a dx C : Addr} {ns : List Str} {xs : List V} {ds : List D} :
      B a = some (.ins C dx (ns.zip xs)) → IsAll K B xs ds →
      Is K B (.ref a) (.ins C ns ds)
  | scr {a : Addr} {ns : List Int} :
      Scr K B a (ns.map V.int) → Is K B (.ref a) (.scr ns)
  | dct {a : Addr} {ks : List Key} {vs : List V} {ds : List D} :
      Rd B a (.dK (ks.zip vs)) → ks.length = ds.length → IsAll K B vs ds → Is K B (.ref a) (.dct ks ds)
inductive IsAll (K : PySem.W.Frag) (B : Hp) : List V → List D → Prop
  | nil : IsAll K B [] []
  | cons {v : V} {vs : List V} {d : D} {ds : List D} :
      Is K B v d → IsAll K B vs ds → IsAll K B (v :: vs) (d :: ds)
end
section
variable {K : PySem.W.Frag} {B B2 H : Hp} {a : Addr} {xs : List V}
theorem sameT (s : Same B B2) (h : SqT K B a xs) : SqT K B2 a xs := by
  rcases h with (h | ⟨o, h⟩) | h
  · exact .inl (.inl (s _ _ h))
  · exact .inl (.inr ⟨o, s _ _ h⟩)
  · exact .inr h
theorem Cln.mono (s : Same B B2) (h : Cln B a) : Cln B2 a := by
  obtain ⟨o, xs, e, d⟩ := h
  exact ⟨o, xs, s _ _ e, d⟩
theorem rdMono {u : HO} (s : Same B B2) (h : Rd B a u) : Rd B2 a u := by
  rcases h with h | ⟨o, h⟩
  · exact .inl (s _ _ h)
  · exact .inr ⟨o, s _ _ h⟩
mutual
theorem Is.mono (s : Same B B2) : ∀ {v : V} {d : D}, Is K B v d → Is K B2 v d
  | _, _, .non => .non
  | _, _, .bl b => .bl b
  | _, _, .int i => .int i
  | _, _, .str x => .str x
  | _, _, .lst h r => .lst (s _ _ h) (IsAll.mono s r)
  | _, _, .tup h r c => .tup (sameT s h) (IsAll.mono s r) (c.mono s)
  | _, _, .dic h => .dic (rdMono s h)
  | _, _, .ins h r => .ins (s _ _ h) (IsAll.mono s r)
  | _, _, .scr h => .scr (h.mono s)
  | _, _, .dct h e r => .dct (rdMono s h) e (IsAll.mono s r)
theorem IsAll.mono (s : Same B B2) :
    ∀ {vs : List V} {ds : List D}, IsAll K B vs ds → IsAll K B2 vs ds
  | _, _, .nil => .nil
  | _, _, .cons h r => .cons (h.mono s) (IsAll.mono s r)
end
theorem IsAll.length {vs : List V} {ds : List D} :
    IsAll K B vs ds → vs.length = ds.length := by
  intro h
  induction ds generalizing vs with
  | nil => cases h; rfl
  | cons d ds ih =>
    cases h with
    | cons h r => rw [List.length_cons, List.length_cons, ih r]
theorem IsAll.get : ∀ {vs : List V} {ds : List D} {i : Nat} {v : V},
    IsAll K B vs ds → vs[i]? = some v → ∃ d, ds[i]? = some d ∧ Is K B v d
  | _, _, _, _, .nil, e => by simp at e
  | _, _, 0, _, .cons h _, e => by
    simp at e; subst e; exact ⟨_, rfl, h⟩
  | _, _, i + 1, v, .cons _ r, e => by
    obtain ⟨d, h1, h2⟩ := IsAll.get (i := i) (v := v) r (by simpa using e)
    exact ⟨d, by simpa using h1, h2⟩
theorem IsAll.got : ∀ {vs : List V} {ds : List D} {i : Nat} {d : D},
    IsAll K B vs ds → ds[i]? = some d → ∃ v, vs[i]? = some v ∧ Is K B v d
  | _, _, _, _, .nil, e => by simp at e
  | _, _, 0, _, .cons h _, e => by
    simp at e; subst e; exact ⟨_, rfl, h⟩
  | _, _, i + 1, d, .cons _ r, e => by
    obtain ⟨v, h1, h2⟩ := IsAll.got (i := i) (d := d) r (by simpa using e)
    exact ⟨v, by simpa using h1, h2⟩
theorem IsAll.append : ∀ {vs ws : List V} {ds es : List D},
    IsAll K B vs ds → IsAll K B ws es → IsAll K B (vs ++ ws) (ds ++ es)
  | _, _, _, _, .nil, s => s
  | _, _, _, _, .cons h r, s => .cons h (IsAll.append r s)
theorem IsAll.take (n : Nat) : ∀ {vs : List V} {ds : List D},
    IsAll K B vs ds → IsAll K B (vs.take n) (ds.take n) := by
  induction n with
  | zero => intro vs ds _; exact .nil
  | succ n ih =>
    intro vs ds h
    cases h with
    | nil => exact .nil
    | cons h r => exact .cons h (ih r)
theorem IsAll.drop (n : Nat) : ∀ {vs : List V} {ds : List D},
    IsAll K B vs ds → IsAll K B (vs.drop n) (ds.drop n) := by
  induction n with
  | zero => intro vs ds h; exact h
  | succ n ih =>
    intro vs ds h
    cases h with
    | nil => exact .nil
    | cons h r => exact ih r
end
theorem same_new {H : Hp} {p : Addr} {o : HO} (h : H p = none) :
    Same H (upd H p o) := fun b x e => by
  rw [upd_ne (ne_of_none e h)]
  exact e
/-- the law's own hand: what is left of its digits, its seed, its count -/
def Hand (H : Hp) (l : Addr) (n : Nat) : Prop :=
  ∃ g s c : Int, H l = some (.lst [.int g, .int s, .int c]) ∧
    0 ≤ g ∧ g < 10 ^ 600 ∧ 0 ≤ s ∧ s < 2 ^ 61 ∧ 0 ≤ c ∧ c ≤ n
theorem Hand.mono {H : Hp} {l : Addr} {n m : Nat} (h : Hand H l n)
    (hm : n ≤ m) : Hand H l m := by
  obtain ⟨g, s, c, e, a1, a2, a3, a4, a5, a6⟩ := h
  exact ⟨g, s, c, e, a1, a2, a3, a4, a5, by omega⟩
theorem Hand.some {H : Hp} {l : Addr} {n : Nat} (h : Hand H l n) :
    H l ≠ none := by
  obtain ⟨g, s, c, e, _⟩ := h
  rw [e]
  exact nofun
inductive Sl where
  | dat (d : D)
  | own (ds : List D)
  | hand
  | obj (R : Hp → Addr → HO → Prop)
def Sl.owns : Sl → Bool
  | .own _ => true
  | .obj _ => true
  | _ => false
abbrev Ro := List (Option Sl)
def SlV (K : PySem.W.Frag) (l : Option Addr) (Z : Addr → Prop)
    (B H : Hp) (v : V) : Sl → Prop
  | .dat d => Is K B v d
  | .own ds => ∃ a xs, v = .ref a ∧ H a = some (.lst xs) ∧ B a = none ∧
      ¬ Z a ∧ l ≠ some a ∧ IsAll K B xs ds
  | .hand => ∃ a, l = some a ∧ v = .ref a
  | .obj R => ∃ a o, v = .ref a ∧ H a = some o ∧ B a = none ∧
      ¬ Z a ∧ l ≠ some a ∧ R B a o ∧
      ∀ B1 B2, Same B1 B2 → R B1 a o → R B2 a o
theorem SlV.owned {K : PySem.W.Frag} {l : Option Addr} {Z : Addr → Prop}
    {B H : Hp} {v : V} {s : Sl} (o : s.owns = true) (q : SlV K l Z B H v s) :
    ∃ a x, v = .ref a ∧ H a = some x ∧ B a = none ∧ ¬ Z a ∧ l ≠ some a := by
  cases s with
  | dat d => cases o
  | hand => cases o
  | own ds =>
    obtain ⟨a, xs, e, q1, q2, q3, q4, _⟩ := q
    exact ⟨a, _, e, q1, q2, q3, q4⟩
  | obj R =>
    obtain ⟨a, x, e, q1, q2, q3, q4, _⟩ := q
    exact ⟨a, x, e, q1, q2, q3, q4⟩
structure Bs (l : Option Addr) (Z : Addr → Prop) (m : Nat) (B H : Hp) :
    Prop where
  sub : Same B H
  hand : ∀ a, l = some a → Hand H a m ∧ B a = none
  zs : ∀ z, Z z → H z ≠ none ∧ B z = none ∧ l ≠ some z
structure Ok (K : PySem.W.Frag) (l : Option Addr) (Z : Addr → Prop)
    (m : Nat) (B H : Hp) (σ : L2.St) (ρ : Ro) : Prop extends
    Bs l Z m B H where
  len : σ.length = ρ.length
  sl : ∀ (i : Nat) s, ρ[i]? = some (some s) →
    ∃ v, σ[i]? = some (some v) ∧ SlV K l Z B H v s
  dis : ∀ (i j : Nat) (s t : Sl) a, i ≠ j → s.owns = true →
    t.owns = true → ρ[i]? = some (some s) → ρ[j]? = some (some t) →
    σ[i]? = some (some (.ref a)) → σ[j]? ≠ some (some (.ref a))
structure Fr (Z : Addr → Prop) (B H B2 H2 : Hp) : Prop where
  sub : Same B B2
  kept : ∀ z, Z z → H2 z = H z
section
variable {K : PySem.W.Frag} {l : Option Addr} {Z : Addr → Prop}
variable {m m' : Nat} {B H B1 H1 B2 H2 : Hp} {σ : L2.St} {ρ : Ro}
theorem Fr.refl : Fr Z B H B H := ⟨Same.refl B, fun _ _ => rfl⟩
theorem Fr.trans (a : Fr Z B H B1 H1) (b : Fr Z B1 H1 B2 H2) :
    Fr Z B H B2 H2 :=
  ⟨a.sub.trans b.sub, fun z h => (b.kept z h).trans (a.kept z h)⟩
theorem Bs.mono (h : Bs l Z m B H) (hm : m ≤ m') : Bs l Z m' B H :=
  ⟨h.sub, fun a e => ⟨(h.hand a e).1.mono hm, (h.hand a e).2⟩, h.zs⟩
/-- the state over a heap in which more stands: all own lists, the hand and what is kept are as they were -/
theorem Ok.step (h : Ok K l Z m B H σ ρ) (hs : Same B B2) (hB : Same B2 H2)
    (hh : ∀ a, l = some a → Hand H2 a m')
    (hk : ∀ a o, l ≠ some a → H a = some o → H2 a = some o)
    (hf : ∀ a, H a ≠ none → B a = none → B2 a = none) :
    Ok K l Z m' B2 H2 σ ρ ∧ Fr Z B H B2 H2 := by
  have keep : ∀ z, l ≠ some z → H z ≠ none → H2 z = H z := by
    intro z hz hn
    cases e : H z with
    | none => exact absurd e hn
    | some o => exact hk z o hz e
  refine ⟨⟨⟨hB, fun a e => ⟨hh a e, ?_⟩, ?_⟩, h.len, ?_, h.dis⟩,
    ⟨hs, fun z hz => ?_⟩⟩
  · exact hf a (h.hand a e).1.some (h.hand a e).2
  · intro z hz
    obtain ⟨q1, q2, q3⟩ := h.zs z hz
    exact ⟨by rw [keep z q3 q1]; exact q1, hf z q1 q2, q3⟩
  · intro i s e
    obtain ⟨v, e1, q⟩ := h.sl i s e
    refine ⟨v, e1, ?_⟩
    cases s with
    | dat d => exact Is.mono hs q
    | hand => exact q
    | own ds =>
      obtain ⟨a, xs, rfl, q1, q2, q3, q4, q5⟩ := q
      refine ⟨a, xs, rfl, hk a _ q4 q1, hf a ?_ q2, q3, q4, q5.mono hs⟩
      rw [q1]; exact nofun
    | obj R =>
      obtain ⟨a, o, rfl, q1, q2, q3, q4, q5, q6⟩ := q
      refine ⟨a, o, rfl, hk a _ q4 q1, hf a ?_ q2, q3, q4, q6 _ _ hs q5, q6⟩
      rw [q1]; exact nofun
  · obtain ⟨q1, q2, q3⟩ := h.zs z hz
    exact keep z q3 q1
/-- a new object, which is data from now on -/
theorem Ok.new {p : Addr} {o : HO} (h : Ok K l Z m B H σ ρ)
    (hp : H p = none) :
    Ok K l Z m (upd B p o) (upd H p o) σ ρ ∧
      Fr Z B H (upd B p o) (upd H p o) := by
  have hb : B p = none := by
    cases e : B p with
    | none => rfl
    | some x => rw [h.sub p x e] at hp; cases hp
  refine h.step (same_new hb) (fun b x e => ?_) (fun a e => ?_)
    (fun a x _ e => same_new hp a x e) (fun a hn e => ?_)
  · by_cases q : b = p
    · subst q
      rw [upd_same] at e ⊢
      exact e
    · rw [upd_ne q] at e ⊢
      exact h.sub b x e
  · obtain ⟨g, s, c, q, r⟩ := (h.hand a e).1
    exact ⟨g, s, c, same_new hp _ _ q, r⟩
  · have q : a ≠ p := fun z => hn (z ▸ hp)
    rw [upd_ne q]
    exact e
end
def EvC (K : PySem.W.Frag) (l : Option Addr) (te : TE) (ρ : Ro) (m : Nat)
    (Φ : Nat → D → Prop) : Prop :=
  ∀ Z B H σ (Q : VK), Ok K l Z m B H σ ρ →
    (∀ v d m' B2 H2, Ok K l Z m' B2 H2 σ ρ → Fr Z B H B2 H2 →
      Is K B2 v d → Φ m' d → Q v H2) → te σ H Q
def TvC (K : PySem.W.Frag) (l : Option Addr) (tt : TT) (ρ : Ro) (m : Nat)
    (Φ : Nat → Bool → Prop) : Prop :=
  ∀ Z B H σ (Q : Bool → Hp → Prop), Ok K l Z m B H σ ρ →
    (∀ b m' B2 H2, Ok K l Z m' B2 H2 σ ρ → Fr Z B H B2 H2 →
      Φ m' b → Q b H2) → tt σ H Q
def AvC (K : PySem.W.Frag) (l : Option Addr) (ta : TA) (ρ : Ro) (m : Nat)
    (Φ : Nat → List D → Prop) : Prop :=
  ∀ Z B H σ (Q : List V → Hp → Prop), Ok K l Z m B H σ ρ →
    (∀ vs ds m' B2 H2, Ok K l Z m' B2 H2 σ ρ → Fr Z B H B2 H2 →
      IsAll K B2 vs ds → Φ m' ds → Q vs H2) → ta σ H Q
/-- a step on values that are data -/
def VvC (K : PySem.W.Frag) (l : Option Addr) (ρ : Ro)
    (r : List V → Hp → VK → Prop) (ds : List D) (m : Nat)
    (Φ : Nat → D → Prop) : Prop :=
  ∀ Z B H σ vs (Q : VK), Ok K l Z m B H σ ρ → IsAll K B vs ds →
    (∀ v d m' B2 H2, Ok K l Z m' B2 H2 σ ρ → Fr Z B H B2 H2 →
      Is K B2 v d → Φ m' d → Q v H2) → r vs H Q
def SvC (K : PySem.W.Frag) (l : Option Addr) (ts : TS) (ρ : Ro) (m : Nat)
    (Nx : Nat → Ro → Prop) (Rt : Nat → D → Prop) : Prop :=
  ∀ Z B H σ (W : Ends), Ok K l Z m B H σ ρ →
    (∀ σ' ρ' m' B2 H2, Ok K l Z m' B2 H2 σ' ρ' → Fr Z B H B2 H2 →
      Nx m' ρ' → W.nx σ' H2) →
    (∀ v d m' B2 H2, Bs l Z m' B2 H2 → Fr Z B H B2 H2 →
      Is K B2 v d → Rt m' d → W.rt v H2) → ts W σ H
section
variable {K : PySem.W.Frag} {l : Option Addr} {ρ : Ro} {m : Nat}
variable {Φ : Nat → D → Prop} {Θ : Nat → Bool → Prop}
variable {ta tb te : TE} {t u : TT}
theorem e_var {i : Nat} {d : D} (h : ρ[i]? = some (some (.dat d)))
    (q : Φ m d) : EvC K l (tVar i) ρ m Φ := by
  intro Z B H σ Q ok k
  obtain ⟨v, e, z⟩ := ok.sl i _ h
  exact ⟨v, e, k v d m B H ok Fr.refl z q⟩
theorem e_non (q : Φ m .non) : EvC K l (tC .non) ρ m Φ :=
  fun Z B H σ Q ok k => k _ _ m B H ok Fr.refl .non q
theorem e_bl {b : Bool} (q : Φ m (.bl b)) : EvC K l (tC (.bl b)) ρ m Φ :=
  fun Z B H σ Q ok k => k _ _ m B H ok Fr.refl (.bl b) q
theorem e_int {i : Int} (q : Φ m (.int i)) : EvC K l (tC (.int i)) ρ m Φ :=
  fun Z B H σ Q ok k => k _ _ m B H ok Fr.refl (.int i) q
theorem e_str {x : Str} (q : Φ m (.str x)) : EvC K l (tC (.str x)) ρ m Φ :=
  fun Z B H σ Q ok k => k _ _ m B H ok Fr.refl (.str x) q
theorem e_imp {Φ' : Nat → D → Prop} (h : EvC K l te ρ m Φ)
    (q : ∀ n d, Φ n d → Φ' n d) : EvC K l te ρ m Φ' :=
  fun Z B H σ Q ok k => h Z B H σ Q ok fun v d n B2 H2 a b c e =>
    k v d n B2 H2 a b c (q n d e)
theorem e_op {r : R2} (h : EvC K l ta ρ m fun m1 x => EvC K l tb ρ m1
      fun m2 y => VvC K l ρ (fun vs H Q => ∃ x y, vs = [x, y] ∧ r x y H Q)
        [x, y] m2 Φ) : EvC K l (tOp r ta tb) ρ m Φ := by
  intro Z B H σ Q ok k
  refine h Z B H σ _ ok fun v1 d1 m1 B1 H1 o1 f1 i1 g1 => ?_
  refine g1 Z B1 H1 σ _ o1 fun v2 d2 m2 B2 H2 o2 f2 i2 g2 => ?_
  obtain ⟨x, y, e, z⟩ := g2 Z B2 H2 σ [v1, v2] Q o2
    (.cons (i1.mono f2.sub) (.cons i2 .nil)) fun v d m' B3 H3 o3 f3 i3 g3 =>
    k v d m' B3 H3 o3 ((f1.trans f2).trans f3) i3 g3
  cases e
  exact z
theorem e_un {r : V → Hp → VK → Prop} (h : EvC K l ta ρ m fun m1 x =>
      VvC K l ρ (fun vs H Q => ∃ x, vs = [x] ∧ r x H Q) [x] m1 Φ) :
    EvC K l (tUn r ta) ρ m Φ := by
  intro Z B H σ Q ok k
  refine h Z B H σ _ ok fun v1 d1 m1 B1 H1 o1 f1 i1 g1 => ?_
  obtain ⟨x, e, z⟩ := g1 Z B1 H1 σ [v1] Q o1 (.cons i1 .nil)
    fun v d m' B3 H3 o3 f3 i3 g3 =>
    k v d m' B3 H3 o3 (f1.trans f3) i3 g3
  cases e
  exact z
theorem v_I {C : Int → Int → Prop} {g : Int → Int → Int} {i j : Int}
    (hc : C i j) (q : Φ m (.int (g i j))) :
    VvC K l ρ (fun vs H Q => ∃ x y, vs = [x, y] ∧
      rI C (fun i j => .int (g i j)) x y H Q) [.int i, .int j] m Φ := by
  intro Z B H σ vs Q ok is k
  cases is with
  | cons h1 r =>
    cases r with
    | cons h2 r =>
      cases r
      cases h1
      cases h2
      exact ⟨_, _, rfl, i, j, rfl, rfl, hc,
        k _ _ m B H ok Fr.refl (.int _) q⟩
theorem v_I0 {g : Int → Int → Int} {i j : Int} (q : Φ m (.int (g i j))) :
    VvC K l ρ (fun vs H Q => ∃ x y, vs = [x, y] ∧
      rI0 (fun i j => .int (g i j)) x y H Q) [.int i, .int j] m Φ := by
  intro Z B H σ vs Q ok is k
  cases is with
  | cons h1 r =>
    cases r with
    | cons h2 r =>
      cases r
      cases h1
      cases h2
      exact ⟨_, _, rfl, i, j, rfl, rfl, k _ _ m B H ok Fr.refl (.int _) q⟩
theorem v_B0 {g : Int → Int → Bool} {i j : Int} (q : Φ m (.bl (g i j))) :
    VvC K l ρ (fun vs H Q => ∃ x y, vs = [x, y] ∧
      rI0 (fun i j => .bl (g i j)) x y H Q) [.int i, .int j] m Φ := by
  intro Z B H σ vs Q ok is k
  cases is with
  | cons h1 r =>
    cases r with
    | cons h2 r =>
      cases r
      cases h1
      cases h2
      exact ⟨_, _, rfl, i, j, rfl, rfl, k _ _ m B H ok Fr.refl (.bl _) q⟩
/-- == of two texts, two truths -/
theorem v_eqS {a b : Str} (q : Φ m (.bl (decide (a = b)))) :
    VvC K l ρ (fun vs H Q => ∃ x y, vs = [x, y] ∧ rEq x y H Q)
      [.str a, .str b] m Φ := by
  intro Z B H σ vs Q ok is k
  cases is with
  | cons h1 r =>
    cases r with
    | cons h2 r =>
      cases r
      cases h1
      cases h2
      refine ⟨_, _, rfl, rfl, k _ _ m B H ok Fr.refl (.bl _) ?_⟩
      have e : decide (V.str a = V.str b) = decide (a = b) := by
        by_cases h : a = b
        · subst h; simp
        · rw [decide_eq_false h,
            decide_eq_false (fun z => h (V.str.inj z))]
      rw [e]
      exact q
theorem v_neS {a b : Str} (q : Φ m (.bl (!decide (a = b)))) :
    VvC K l ρ (fun vs H Q => ∃ x y, vs = [x, y] ∧ rNe x y H Q)
      [.str a, .str b] m Φ := by
  intro Z B H σ vs Q ok is k
  cases is with
  | cons h1 r =>
    cases r with
    | cons h2 r =>
      cases r
      cases h1
      cases h2
      refine ⟨_, _, rfl, rfl, k _ _ m B H ok Fr.refl (.bl _) ?_⟩
      have e : decide (V.str a = V.str b) = decide (a = b) := by
        by_cases h : a = b
        · subst h; simp
        · rw [decide_eq_false h,
            decide_eq_false (fun z => h (V.str.inj z))]
      rw [e]
      exact q
theorem t_test (h : EvC K l te ρ m fun m1 d => ∃ b, d = .bl b ∧ Θ m1 b) :
    TvC K l (tTest te) ρ m Θ := by
  intro Z B H σ Q ok k
  refine h Z B H σ _ ok fun v d m1 B1 H1 o1 f1 i1 g1 => ?_
  obtain ⟨b, rfl, g⟩ := g1
  cases i1
  exact ⟨b, rfl, k b m1 B1 H1 o1 f1 g⟩
theorem t_B (h : EvC K l te ρ m fun m1 d => ∃ b, d = .bl b ∧ Θ m1 b) :
    TvC K l (tB te) ρ m Θ := by
  intro Z B H σ Q ok k
  refine h Z B H σ _ ok fun v d m1 B1 H1 o1 f1 i1 g1 => ?_
  obtain ⟨b, rfl, g⟩ := g1
  cases i1
  exact ⟨b, rfl, k b m1 B1 H1 o1 f1 g⟩
theorem t_and (h : TvC K l t ρ m fun m1 b =>
      if b = true then TvC K l u ρ m1 Θ else Θ m1 false) :
    TvC K l (tAnd t u) ρ m Θ := by
  intro Z B H σ Q ok k
  refine h Z B H σ _ ok fun b m1 B1 H1 o1 f1 g1 => ?_
  cases b with
  | true =>
    exact g1 Z B1 H1 σ Q o1 fun b m2 B2 H2 o2 f2 g2 =>
      k b m2 B2 H2 o2 (f1.trans f2) g2
  | false =>
    exact k false m1 B1 H1 o1 f1 g1
theorem t_or (h : TvC K l t ρ m fun m1 b =>
      if b = true then Θ m1 true else TvC K l u ρ m1 Θ) :
    TvC K l (tOr t u) ρ m Θ := by
  intro Z B H σ Q ok k
  refine h Z B H σ _ ok fun b m1 B1 H1 o1 f1 g1 => ?_
  cases b with
  | false =>
    exact g1 Z B1 H1 σ Q o1 fun b m2 B2 H2 o2 f2 g2 =>
      k b m2 B2 H2 o2 (f1.trans f2) g2
  | true =>
    exact k true m1 B1 H1 o1 f1 g1
theorem t_not (h : TvC K l t ρ m fun m1 b => Θ m1 (!b)) :
    TvC K l (tNot t) ρ m Θ :=
  fun Z B H σ Q ok k => h Z B H σ _ ok fun b m1 B1 H1 o1 f1 g1 =>
    k _ m1 B1 H1 o1 f1 g1
theorem e_andV (h : EvC K l ta ρ m fun m1 d => ∃ b, d = .bl b ∧
      if b = true then EvC K l tb ρ m1 Φ else Φ m1 (.bl false)) :
    EvC K l (tAndV ta tb) ρ m Φ := by
  intro Z B H σ Q ok k
  refine h Z B H σ _ ok fun v d m1 B1 H1 o1 f1 i1 g1 => ?_
  obtain ⟨b, rfl, g⟩ := g1
  cases i1
  refine ⟨b, rfl, ?_⟩
  cases b with
  | true =>
    exact g Z B1 H1 σ Q o1 fun v d m2 B2 H2 o2 f2 i2 g2 =>
      k v d m2 B2 H2 o2 (f1.trans f2) i2 g2
  | false =>
    exact k _ _ m1 B1 H1 o1 f1 (.bl false) g
theorem e_orV (h : EvC K l ta ρ m fun m1 d => ∃ b, d = .bl b ∧
      if b = true then Φ m1 (.bl true) else EvC K l tb ρ m1 Φ) :
    EvC K l (tOrV ta tb) ρ m Φ := by
  intro Z B H σ Q ok k
  refine h Z B H σ _ ok fun v d m1 B1 H1 o1 f1 i1 g1 => ?_
  obtain ⟨b, rfl, g⟩ := g1
  cases i1
  refine ⟨b, rfl, ?_⟩
  cases b with
  | false =>
    exact g Z B1 H1 σ Q o1 fun v d m2 B2 H2 o2 f2 i2 g2 =>
      k v d m2 B2 H2 o2 (f1.trans f2) i2 g2
  | true =>
    exact k _ _ m1 B1 H1 o1 f1 (.bl true) g
theorem e_notV (h : EvC K l ta ρ m fun m1 d => ∃ b, d = .bl b ∧
      Φ m1 (.bl (!b))) : EvC K l (tNotV ta) ρ m Φ := by
  intro Z B H σ Q ok k
  refine h Z B H σ _ ok fun v d m1 B1 H1 o1 f1 i1 g1 => ?_
  obtain ⟨b, rfl, g⟩ := g1
  cases i1
  exact ⟨b, rfl, k _ _ m1 B1 H1 o1 f1 (.bl _) g⟩
theorem e_if (h : TvC K l t ρ m fun m1 b =>
      if b = true then EvC K l ta ρ m1 Φ else EvC K l tb ρ m1 Φ) :
    EvC K l (tIf t ta tb) ρ m Φ := by
  intro Z B H σ Q ok k
  refine h Z B H σ _ ok fun b m1 B1 H1 o1 f1 g1 => ?_
  cases b with
  | true =>
    exact g1 Z B1 H1 σ Q o1 fun v d m2 B2 H2 o2 f2 i2 g2 =>
      k v d m2 B2 H2 o2 (f1.trans f2) i2 g2
  | false =>
    exact g1 Z B1 H1 σ Q o1 fun v d m2 B2 H2 o2 f2 i2 g2 =>
      k v d m2 B2 H2 o2 (f1.trans f2) i2 g2
/-- a <= b <= c of whole numbers -/
theorem e_chain {g h : Int → Int → Bool} {tc : TE}
    (q : EvC K l ta ρ m fun m1 x => EvC K l tb ρ m1 fun m2 y =>
      ∃ i j, x = .int i ∧ y = .int j ∧
      if g i j = true then EvC K l tc ρ m2 fun m3 z =>
        ∃ n, z = .int n ∧ Φ m3 (.bl (h j n))
      else Φ m2 (.bl false)) :
    EvC K l (tChain (rI0 fun i j => .bl (g i j))
      (rI0 fun i j => .bl (h i j)) ta tb tc) ρ m Φ := by
  intro Z B H σ Q ok k
  refine q Z B H σ _ ok fun v1 d1 m1 B1 H1 o1 f1 i1 g1 => ?_
  refine g1 Z B1 H1 σ _ o1 fun v2 d2 m2 B2 H2 o2 f2 i2 g2 => ?_
  obtain ⟨i, j, rfl, rfl, r⟩ := g2
  cases i1
  cases i2
  refine ⟨i, j, rfl, rfl, _, rfl, ?_⟩
  cases e : g i j with
  | false =>
    rw [e] at r
    exact k _ _ m2 B2 H2 o2 (f1.trans f2) (.bl false) r
  | true =>
    rw [e] at r
    refine r Z B2 H2 σ _ o2 fun v3 d3 m3 B3 H3 o3 f3 i3 g3 => ?_
    obtain ⟨n, rfl, z⟩ := g3
    cases i3
    exact ⟨j, n, rfl, rfl,
      k _ _ m3 B3 H3 o3 ((f1.trans f2).trans f3) (.bl _) z⟩
variable {Ψ : Nat → List D → Prop} {tr tA : TA}
theorem a_nil (q : Ψ m []) : AvC K l tNil ρ m Ψ :=
  fun Z B H σ Q ok k => k [] [] m B H ok Fr.refl .nil q
theorem a_cons (h : EvC K l ta ρ m fun m1 x => AvC K l tr ρ m1 fun m2 xs =>
      Ψ m2 (x :: xs)) : AvC K l (tCons ta tr) ρ m Ψ := by
  intro Z B H σ Q ok k
  refine h Z B H σ _ ok fun v d m1 B1 H1 o1 f1 i1 g1 => ?_
  refine g1 Z B1 H1 σ _ o1 fun vs ds m2 B2 H2 o2 f2 i2 g2 => ?_
  exact k _ _ m2 B2 H2 o2 (f1.trans f2) (.cons (i1.mono f2.sub) i2) g2
theorem sqF {B : Hp} {a : Addr} {xs : List V} {o : Obj}
    (h : B a = some (.frz o (.tup xs))) : SqT K B a xs := .inl (.inr ⟨o, h⟩)
theorem Is.newT {B : Hp} {a : Addr} {xs : List V} {ds : List D} {o : Obj}
    (h : B a = some (.frz o (.tup xs))) (hd : o.dict = none)
    (r : IsAll K B xs ds) : Is K B (.ref a) (.tup ds) :=
  .tup (sqF h) r ⟨o, xs, h, hd⟩
theorem e_tup (h : AvC K l tA ρ m fun m1 ds => ds.length ≤ 100000 ∧
      Φ m1 (.tup ds)) : EvC K l (tTupC tA) ρ m Φ := by
  intro Z B H σ Q ok k
  refine h Z B H σ _ ok fun vs ds m1 B1 H1 o1 f1 i1 g1 => ?_
  refine ⟨?_, fun p ob hp hd _ => ?_⟩
  · rw [i1.length]
    exact Nat.le_trans g1.1 (by decide)
  · obtain ⟨o2, f2⟩ := o1.new (o := .frz ob (.tup vs)) hp
    exact k _ _ m1 _ _ o2 (f1.trans f2)
      (.newT upd_same hd (i1.mono f2.sub)) g1.2
theorem e_lst (h : AvC K l tA ρ m fun m1 ds => ds.length ≤ 100000 ∧
      Φ m1 (.lst ds)) : EvC K l (tLst tA) ρ m Φ := by
  intro Z B H σ Q ok k
  refine h Z B H σ _ ok fun vs ds m1 B1 H1 o1 f1 i1 g1 => ?_
  refine ⟨?_, fun p hp => ?_⟩
  · rw [i1.length]
    exact Nat.le_trans g1.1 (by decide)
  · obtain ⟨o2, f2⟩ := o1.new (o := .lst vs) hp
    exact k _ _ m1 _ _ o2 (f1.trans f2)
      (.lst upd_same (i1.mono f2.sub)) g1.2
theorem e_cb {r : List V → Hp → VK → Prop}
    (h : AvC K l tA ρ m fun m1 ds => VvC K l ρ r ds m1 Φ) :
    EvC K l (tCB r tA) ρ m Φ := by
  intro Z B H σ Q ok k
  refine h Z B H σ _ ok fun vs ds m1 B1 H1 o1 f1 i1 g1 => ?_
  exact g1 Z B1 H1 σ vs Q o1 i1 fun v d m2 B2 H2 o2 f2 i2 g2 =>
    k v d m2 B2 H2 o2 (f1.trans f2) i2 g2
variable {Nx : Nat → Ro → Prop} {Rt : Nat → D → Prop} {ts tu : TS}
theorem s_next (q : Nx m ρ) : SvC K l tNext ρ m Nx Rt :=
  fun Z B H σ W ok k _ => k σ ρ m B H ok Fr.refl q
theorem s_seq (h : SvC K l ts ρ m (fun m1 ρ1 => SvC K l tu ρ1 m1 Nx Rt)
      Rt) : SvC K l (tSeq ts tu) ρ m Nx Rt := by
  intro Z B H σ W ok k j
  refine h Z B H σ _ ok (fun σ1 ρ1 m1 B1 H1 o1 f1 g1 => ?_) ?_
  · exact g1 Z B1 H1 σ1 W o1
      (fun σ2 ρ2 m2 B2 H2 o2 f2 g2 => k σ2 ρ2 m2 B2 H2 o2 (f1.trans f2) g2)
      fun v d m2 B2 H2 o2 f2 i2 g2 => j v d m2 B2 H2 o2 (f1.trans f2) i2 g2
  · exact fun v d m1 B1 H1 o1 f1 i1 g1 => j v d m1 B1 H1 o1 f1 i1 g1
theorem s_ret (h : EvC K l te ρ m Rt) : SvC K l (tRet te) ρ m Nx Rt :=
  fun Z B H σ W ok _ j => h Z B H σ _ ok fun v d m1 B1 H1 o1 f1 i1 g1 =>
    j v d m1 B1 H1 o1.toBs f1 i1 g1
theorem s_if (h : TvC K l t ρ m fun m1 b =>
      if b = true then SvC K l ts ρ m1 Nx Rt else SvC K l tu ρ m1 Nx Rt) :
    SvC K l (tIfS t ts tu) ρ m Nx Rt := by
  intro Z B H σ W ok k j
  refine h Z B H σ _ ok fun b m1 B1 H1 o1 f1 g1 => ?_
  cases b with
  | true =>
    exact g1 Z B1 H1 σ W o1
      (fun σ2 ρ2 m2 B2 H2 o2 f2 g2 => k σ2 ρ2 m2 B2 H2 o2 (f1.trans f2) g2)
      fun v d m2 B2 H2 o2 f2 i2 g2 => j v d m2 B2 H2 o2 (f1.trans f2) i2 g2
  | false =>
    exact g1 Z B1 H1 σ W o1
      (fun σ2 ρ2 m2 B2 H2 o2 f2 g2 => k σ2 ρ2 m2 B2 H2 o2 (f1.trans f2) g2)
      fun v d m2 B2 H2 o2 f2 i2 g2 => j v d m2 B2 H2 o2 (f1.trans f2) i2 g2
/-- a slot set to data -/
theorem Ok.set {Z : Addr → Prop} {B H : Hp} {σ : L2.St} {v : V} {d : D}
    {i : Nat} (h : Ok K l Z m B H σ ρ) (q : Is K B v d) :
    Ok K l Z m B H (σ.set i (some v)) (ρ.set i (some (.dat d))) := by
  refine { h.toBs with len := ?_, sl := ?_, dis := ?_ }
  · rw [List.length_set, List.length_set]
    exact h.len
  · intro j s e
    by_cases hj : i = j
    · subst hj
      have hi : i < ρ.length := by
        obtain ⟨hi, _⟩ := List.getElem?_eq_some_iff.mp e
        simpa using hi
      rw [List.getElem?_set_self hi] at e
      cases e
      exact ⟨v, List.getElem?_set_self (by rw [h.len]; exact hi), q⟩
    · rw [List.getElem?_set_ne hj] at e ⊢
      exact h.sl j s e
  · intro j k s t a hjk p1 p2 e1 e2
    have n1 : i ≠ j := fun z => by
      subst z
      rcases Nat.lt_or_ge i ρ.length with hi | hi
      · rw [List.getElem?_set_self hi] at e1
        cases e1
        cases p1
      · rw [List.getElem?_eq_none (by rw [List.length_set]; exact hi)] at e1
        cases e1
    have n2 : i ≠ k := fun z => by
      subst z
      rcases Nat.lt_or_ge i ρ.length with hi | hi
      · rw [List.getElem?_set_self hi] at e2
        cases e2
        cases p2
      · rw [List.getElem?_eq_none (by rw [List.length_set]; exact hi)] at e2
        cases e2
    rw [List.getElem?_set_ne n1] at e1 ⊢
    rw [List.getElem?_set_ne n2] at e2 ⊢
    exact h.dis j k s t a hjk p1 p2 e1 e2
theorem s_asg {i : Nat} (h : EvC K l te ρ m fun m1 d =>
      Nx m1 (ρ.set i (some (.dat d)))) :
    SvC K l (tAsg te (gName i)) ρ m Nx Rt :=
  fun Z B H σ W ok k _ => h Z B H σ _ ok fun v d m1 B1 H1 o1 f1 i1 g1 =>
    k _ _ m1 B1 H1 (o1.set i1) f1 g1
end
end Wt

namespace Wt
open PySem PySem.Spec PyProof.Rows L2
section
variable {K : PySem.W.Frag} {l : Option Addr} {ρ : Ro} {m : Nat}
variable {Φ : Nat → D → Prop} {Θ : Nat → Bool → Prop}
variable {Nx : Nat → Ro → Prop} {Rt : Nat → D → Prop} {ts tb : TS}
variable {ta te tl : TE} {t u : TT} {tA : TA}
variable {Z : Addr → Prop} {B H : Hp} {σ : L2.St}
theorem Ok.same0 (h : Ok K l Z m B H σ ρ) {p : Addr} (hp : H p = none) :
    B p = none := by
  cases e : B p with
  | none => rfl
  | some x => rw [h.sub p x e] at hp; cases hp
/-- a new object that is not data: kept aside -/
theorem Ok.aside {p : Addr} {o : HO} (h : Ok K l Z m B H σ ρ)
    (hp : H p = none) :
    Ok K l (fun a => Z a ∨ a = p) m B (upd H p o) σ ρ := by
  have up : ∀ a x, H a = some x → upd H p o a = some x := same_new hp
  refine ⟨⟨fun b x e => up b x (h.sub b x e), fun a e => ⟨?_, ?_⟩, ?_⟩,
    h.len, ?_, h.dis⟩
  · obtain ⟨g, s, c, q, r⟩ := (h.hand a e).1
    exact ⟨g, s, c, up _ _ q, r⟩
  · exact (h.hand a e).2
  · intro z hz
    rcases hz with hz | rfl
    · obtain ⟨q1, q2, q3⟩ := h.zs z hz
      refine ⟨?_, q2, q3⟩
      cases e : H z with
      | none => exact absurd e q1
      | some x => rw [up z x e]; exact nofun
    · refine ⟨by rw [upd_same]; exact nofun, h.same0 hp, fun e => ?_⟩
      exact (h.hand z e).1.some hp
  · intro i s e
    obtain ⟨v, e1, q⟩ := h.sl i s e
    refine ⟨v, e1, ?_⟩
    cases s with
    | dat d => exact q
    | hand => exact q
    | own ds =>
      obtain ⟨a, xs, rfl, q1, q2, q3, q4, q5⟩ := q
      refine ⟨a, xs, rfl, up _ _ q1, q2, fun z => ?_, q4, q5⟩
      rcases z with z | rfl
      · exact q3 z
      · rw [hp] at q1; cases q1
    | obj R =>
      obtain ⟨a, o', rfl, q1, q2, q3, q4, q5⟩ := q
      refine ⟨a, o', rfl, up _ _ q1, q2, fun z => ?_, q4, q5⟩
      rcases z with z | rfl
      · exact q3 z
      · rw [hp] at q1; cases q1
/-- what is kept aside may be written -/
theorem Ok.write {p : Addr} {o : HO} (h : Ok K l Z m B H σ ρ) (hz : Z p) :
    Ok K l Z m B (upd H p o) σ ρ := by
  obtain ⟨z1, z2, z3⟩ := h.zs p hz
  refine ⟨⟨fun b x e => ?_, fun a e => ⟨?_, (h.hand a e).2⟩, ?_⟩,
    h.len, ?_, h.dis⟩
  · have q : b ≠ p := fun z => by subst z; rw [z2] at e; cases e
    rw [upd_ne q]
    exact h.sub b x e
  · obtain ⟨g, s, c, q, r⟩ := (h.hand a e).1
    have n : a ≠ p := fun z => z3 (z ▸ e)
    exact ⟨g, s, c, by rw [upd_ne n]; exact q, r⟩
  · intro z hz'
    obtain ⟨q1, q2, q3⟩ := h.zs z hz'
    refine ⟨?_, q2, q3⟩
    by_cases n : z = p
    · subst n; rw [upd_same]; exact nofun
    · rw [upd_ne n]; exact q1
  · intro i s e
    obtain ⟨v, e1, q⟩ := h.sl i s e
    refine ⟨v, e1, ?_⟩
    cases s with
    | dat d => exact q
    | hand => exact q
    | own ds =>
      obtain ⟨a, xs, rfl, q1, q2, q3, q4, q5⟩ := q
      have n : a ≠ p := fun z => q3 (z ▸ hz)
      exact ⟨a, xs, rfl, by rw [upd_ne n]; exact q1, q2, q3, q4, q5⟩
    | obj R =>
      obtain ⟨a, o', rfl, q1, q2, q3, q4, q5⟩ := q
      have n : a ≠ p := fun z => q3 (z ▸ hz)
      exact ⟨a, o', rfl, by rw [upd_ne n]; exact q1, q2, q3, q4, q5⟩
/-- what was kept aside becomes data -/
theorem Ok.thaw {p : Addr} {o : HO}
    (h : Ok K l (fun a => Z a ∨ a = p) m B H σ ρ) (hp : H p = some o)
    (hz : ¬ Z p) : Ok K l Z m (upd B p o) H σ ρ := by
  obtain ⟨z1, z2, z3⟩ := h.zs p (.inr rfl)
  have sm : Same B (upd B p o) := same_new z2
  refine ⟨⟨fun b x e => ?_, fun a e => ⟨(h.hand a e).1, ?_⟩, ?_⟩,
    h.len, ?_, h.dis⟩
  · by_cases q : b = p
    · subst q; rw [upd_same] at e; cases e; exact hp
    · rw [upd_ne q] at e; exact h.sub b x e
  · rw [upd_ne (fun (z : a = p) => z3 (z ▸ e))]
    exact (h.hand a e).2
  · intro z hz'
    obtain ⟨q1, q2, q3⟩ := h.zs z (.inl hz')
    refine ⟨q1, ?_, q3⟩
    rw [upd_ne (fun (n : z = p) => hz (n ▸ hz'))]
    exact q2
  · intro i s e
    obtain ⟨v, e1, q⟩ := h.sl i s e
    refine ⟨v, e1, ?_⟩
    cases s with
    | dat d => exact Is.mono sm q
    | hand => exact q
    | own ds =>
      obtain ⟨a, xs, rfl, q1, q2, q3, q4, q5⟩ := q
      have n : a ≠ p := fun z => q3 (.inr z)
      exact ⟨a, xs, rfl, q1, by rw [upd_ne n]; exact q2,
        fun z => q3 (.inl z), q4, q5.mono sm⟩
    | obj R =>
      obtain ⟨a, o', rfl, q1, q2, q3, q4, q5, q6⟩ := q
      have n : a ≠ p := fun z => q3 (.inr z)
      exact ⟨a, o', rfl, q1, by rw [upd_ne n]; exact q2,
        fun z => q3 (.inl z), q4, q6 _ _ sm q5, q6⟩
/-- a slot that is told nothing of may hold anything -/
theorem Ok.unset {j : Nat} {v : Option V} {s : Option Sl}
    (h : Ok K l Z m B H (σ.set j v) (ρ.set j s)) (e : ρ[j]? = some none) :
    Ok K l Z m B H σ ρ := by
  have ne : ∀ (i : Nat) x, ρ[i]? = some (some x) → j ≠ i := fun i x q z => by
    subst z; rw [e] at q; cases q
  refine ⟨h.toBs, by simpa using h.len, fun i s q => ?_,
    fun i k s t a n p1 p2 q1 q2 => ?_⟩
  · obtain ⟨w, e1, z⟩ := h.sl i s (by rw [List.getElem?_set_ne (ne i s q)]; exact q)
    rw [List.getElem?_set_ne (ne i s q)] at e1
    exact ⟨w, e1, z⟩
  · have z := h.dis i k s t a n p1 p2
      (by rw [List.getElem?_set_ne (ne i _ q1)]; exact q1)
      (by rw [List.getElem?_set_ne (ne k _ q2)]; exact q2)
    rw [List.getElem?_set_ne (ne i _ q1), List.getElem?_set_ne (ne k _ q2)] at z
    exact z
theorem Fr.weak {Z' : Addr → Prop} {B H B2 H2 : Hp} (f : Fr Z' B H B2 H2)
    (h : ∀ z, Z z → Z' z) : Fr Z B H B2 H2 :=
  ⟨f.sub, fun z q => f.kept z (h z q)⟩
/-- between two turns: the list at A is what was made -/
def LcW (K : PySem.W.Frag) (l : Option Addr) (Z : Addr → Prop) (ρ : Ro)
    (σ : L2.St) (B H : Hp) (A : Addr) (I : Nat → Nat → List D → Prop)
    (i : Nat) (H' : Hp) : Prop :=
  ∃ n acc xs B', Ok K l (fun a => Z a ∨ a = A) n B' H' σ ρ ∧
    Fr Z B H B' H' ∧ H' A = some (.lst xs) ∧ IsAll K B' xs acc ∧
    I i n acc ∧ acc.length = i
theorem lcw_start {A : Addr} {I : Nat → Nat → List D → Prop}
    (ok : Ok K l Z m B H σ ρ) (hA : H A = none) (h0 : I 0 m []) :
    LcW K l Z ρ σ B H A I 0 (upd H A (.lst [])) := by
  refine ⟨m, [], [], B, ok.aside hA, ⟨Same.refl B, fun z hz => ?_⟩,
    upd_same, .nil, h0, rfl⟩
  exact upd_ne fun e => (ok.zs z hz).1 (e ▸ hA)
theorem lcw_turn {A : Addr} {I : Nat → Nat → List D → Prop} {i j : Nat}
    {x : V} {H' : Hp} {P : D → Prop} (hz : ¬ Z A) (hj : ρ[j]? = some none)
    (w : LcW K l Z ρ σ B H A I i H')
    (hx : ∀ B', Same B B' → ∃ d, Is K B' x d ∧ P d) (hi : i < 100000)
    (he : ∀ d n acc, P d → I i n acc → acc.length = i →
      EvC K l te (ρ.set j (some (.dat d))) n fun n2 y =>
        I (i + 1) n2 (acc ++ [y])) :
    gName j x (wipe σ [j]) H' fun σ2 H2 => wipe σ2 [j] = wipe σ [j] ∧
      tYes σ2 H2 fun b H3 => if b = true then te σ2 H3 fun y H4 =>
        ∃ acc, H4 A = some (.lst acc) ∧ acc.length < sizeLine ∧
          LcW K l Z ρ σ B H A I (i + 1) (upd H4 A (.lst (acc ++ [y])))
      else LcW K l Z ρ σ B H A I (i + 1) H3 := by
  obtain ⟨n, acc, xs, B', ok, fr, hA, is, hI, hl⟩ := w
  obtain ⟨d, hd, hP⟩ := hx B' fr.sub
  have e1 : (wipe σ [j]).set j (some x) = σ.set j (some x) := by
    show (σ.set j none).set j (some x) = _
    rw [List.set_set]
  unfold gName tYes
  dsimp only
  rw [e1, if_pos rfl]
  refine ⟨?_, ?_⟩
  · show (σ.set j (some x)).set j none = σ.set j none
    rw [List.set_set]
  · refine he d n acc hP hI hl _ B' H' _ _ (ok.set hd) fun v y n2 B2 H2 o2 f2 i2 g2 => ?_
    have hA2 : H2 A = some (.lst xs) := (f2.kept A (.inr rfl)).trans hA
    refine ⟨xs, hA2, ?_, n2, acc ++ [y], xs ++ [v], B2,
      (o2.unset hj).write (.inr rfl), ?_, upd_same,
      (is.mono f2.sub).append (.cons i2 .nil), g2, by simp [hl]⟩
    · rw [is.length, hl]
      exact Nat.lt_of_lt_of_le hi (by decide)
    · refine ⟨fr.sub.trans f2.sub, fun z hz' => ?_⟩
      rw [upd_ne (fun (e : z = A) => hz (e ▸ hz'))]
      exact (f2.kept z (.inl hz')).trans (fr.kept z hz')
theorem lcw_end {A : Addr} {I : Nat → Nat → List D → Prop} {i : Nat}
    {H' : Hp} {Q : VK} (hz : ¬ Z A) (w : LcW K l Z ρ σ B H A I i H')
    (q : ∀ n acc, acc.length = i → I i n acc → Φ n (.lst acc))
    (k : ∀ v d m' B2 H2, Ok K l Z m' B2 H2 σ ρ → Fr Z B H B2 H2 →
      Is K B2 v d → Φ m' d → Q v H2) : Q (.ref A) H' := by
  obtain ⟨n, acc, xs, B', ok, fr, hA, is, hI, hl⟩ := w
  have z2 := (ok.zs A (.inr rfl)).2.1
  exact k _ _ n _ _ (ok.thaw hA hz) ⟨fr.sub.trans (same_new z2), fr.kept⟩
    (.lst upd_same (is.mono (same_new z2))) (q n acc hl hI)
theorem e_lcT {j : Nat} (hj : ρ[j]? = some none)
    (h : EvC K l tl ρ m fun m1 x => ∃ ds, x = .tup ds ∧ ds.length ≤ 50000 ∧
      ∃ I : Nat → Nat → List D → Prop, I 0 m1 [] ∧
      (∀ i n acc d, ds[i]? = some d → I i n acc → acc.length = i →
        EvC K l te (ρ.set j (some (.dat d))) n fun n2 y =>
          I (i + 1) n2 (acc ++ [y])) ∧
      ∀ n acc, acc.length = ds.length → I ds.length n acc →
        Φ n (.lst acc)) :
    EvC K l (tLc (iTup K tl) (gName j) tYes te [j]) ρ m Φ := by
  intro Z B H σ Q ok k
  refine h Z B H σ _ ok fun v x m1 B1 H1 o1 f1 i1 g1 => ?_
  obtain ⟨ds, rfl, hl, I, h0, hs, hd⟩ := g1
  cases i1 with
  | @tup a xs ds hT is =>
    refine ⟨a, rfl, ⟨xs, sameT o1.sub hT⟩, fun A hA => ?_⟩
    have hz : ¬ Z A := fun z => (o1.zs A z).1 hA
    refine lc_tup (xs := xs) (LcW K l Z ρ σ B1 H1 A I)
      (lcw_start o1 hA h0) (fun i H' _ w => ?_) (fun i x H' e w => ?_)
      fun H' w => ?_
    · obtain ⟨n, acc, ys, B', ok', fr', _⟩ := w
      exact sameT ok'.sub (sameT fr'.sub hT)
    · have hi : i < xs.length := (List.getElem?_eq_some_iff.mp e).1
      refine lcw_turn (P := fun d => ds[i]? = some d) hz hj w
        (fun B' sb => ?_) (by rw [is.length] at hi; omega)
        fun d n acc => hs i n acc d
      obtain ⟨d, e2, q⟩ := (is.mono sb).get e
      exact ⟨d, q, e2⟩
    · rw [is.length] at w
      exact lcw_end hz w hd fun v d m' B2 H2 o2 f2 i2 g2 =>
        k v d m' B2 H2 o2 (f1.trans f2) i2 g2
theorem e_lcL {j : Nat} (hj : ρ[j]? = some none)
    (h : EvC K l tl ρ m fun m1 x => ∃ ds, x = .lst ds ∧ ds.length ≤ 50000 ∧
      ∃ I : Nat → Nat → List D → Prop, I 0 m1 [] ∧
      (∀ i n acc d, ds[i]? = some d → I i n acc → acc.length = i →
        EvC K l te (ρ.set j (some (.dat d))) n fun n2 y =>
          I (i + 1) n2 (acc ++ [y])) ∧
      ∀ n acc, acc.length = ds.length → I ds.length n acc →
        Φ n (.lst acc)) :
    EvC K l (tLc (iList K tl) (gName j) tYes te [j]) ρ m Φ := by
  intro Z B H σ Q ok k
  refine h Z B H σ _ ok fun v x m1 B1 H1 o1 f1 i1 g1 => ?_
  obtain ⟨ds, rfl, hl, I, h0, hs, hd⟩ := g1
  cases i1 with
  | @lst a xs ds hT is =>
    refine ⟨a, rfl, ⟨xs, SqL.of (o1.sub _ _ hT)⟩, fun A hA => ?_⟩
    have hz : ¬ Z A := fun z => (o1.zs A z).1 hA
    refine lc_list (xs := xs) (LcW K l Z ρ σ B1 H1 A I)
      (lcw_start o1 hA h0) (fun i H' _ w => ?_) (fun i x H' e w => ?_)
      fun H' w => ?_
    · obtain ⟨n, acc, ys, B', ok', fr', _⟩ := w
      exact SqL.of (ok'.sub _ _ (fr'.sub _ _ hT))
    · have hi : i < xs.length := (List.getElem?_eq_some_iff.mp e).1
      refine lcw_turn (P := fun d => ds[i]? = some d) hz hj w
        (fun B' sb => ?_) (by rw [is.length] at hi; omega)
        fun d n acc => hs i n acc d
      obtain ⟨d, e2, q⟩ := (is.mono sb).get e
      exact ⟨d, q, e2⟩
    · rw [is.length] at w
      exact lcw_end hz w hd fun v d m' B2 H2 o2 f2 i2 g2 =>
        k v d m' B2 H2 o2 (f1.trans f2) i2 g2
theorem e_lcR {j : Nat} (hj : ρ[j]? = some none)
    (h : AvC K l tA ρ m fun m1 x => ∃ c : Int, x = [.int c] ∧ c ≤ 50000 ∧
      -50000 ≤ c ∧
      ∃ I : Nat → Nat → List D → Prop, I 0 m1 [] ∧
      (∀ i n acc, i < c.toNat → I i n acc → acc.length = i →
        EvC K l te (ρ.set j (some (.dat (.int i)))) n fun n2 y =>
          I (i + 1) n2 (acc ++ [y])) ∧
      ∀ n acc, acc.length = c.toNat → I c.toNat n acc → Φ n (.lst acc)) :
    EvC K l (tLc (iRng1 tA) (gName j) tYes te [j]) ρ m Φ := by
  intro Z B H σ Q ok k
  refine h Z B H σ _ ok fun vs x m1 B1 H1 o1 f1 i1 g1 => ?_
  obtain ⟨c, rfl, hc, hc2, I, h0, hs, hd⟩ := g1
  cases i1 with
  | cons i1 r =>
    cases r
    cases i1
    refine ⟨c, rfl, by omega, by omega, fun A hA => ?_⟩
    have hz : ¬ Z A := fun z => (o1.zs A z).1 hA
    refine lc_range (lo := 0) (n := c.toNat) (LcW K l Z ρ σ B1 H1 A I)
      (lcw_start o1 hA h0) (fun i H' hi w => ?_) fun H' w => ?_
    · have e0 : (0 : Int) + (i : Int) = (i : Int) := Int.zero_add _
      rw [e0]
      exact lcw_turn (P := fun d => d = .int i) hz hj w
        (fun B' sb => ⟨_, .int _, rfl⟩) (by omega)
        fun d n acc e => by subst e; exact hs i n acc hi
    · exact lcw_end hz w hd fun v d m' B2 H2 o2 f2 i2 g2 =>
        k v d m' B2 H2 o2 (f1.trans f2) i2 g2
theorem s_forT {j : Nat}
    (h : EvC K l tl ρ m fun m1 x => ∃ ds, x = .tup ds ∧
      ∃ I : Nat → Nat → Ro → Prop, I 0 m1 ρ ∧
      (∀ i n ρ' d, ds[i]? = some d → I i n ρ' →
        SvC K l tb (ρ'.set j (some (.dat d))) n (fun n2 ρ2 =>
          I (i + 1) n2 ρ2) Rt) ∧
      ∀ n ρ', I ds.length n ρ' → Nx n ρ') :
    SvC K l (tFor (iTup K tl) (gName j) tb) ρ m Nx Rt := by
  intro Z B H σ W ok k jr
  refine h Z B H σ _ ok fun v x m1 B1 H1 o1 f1 i1 g1 => ?_
  obtain ⟨ds, rfl, I, h0, hs, hd⟩ := g1
  cases i1 with
  | @tup a xs ds hT is =>
    refine ⟨a, rfl, ⟨xs, sameT o1.sub hT⟩, ?_⟩
    refine for_tup (xs := xs) (fun i σ' H' => ∃ n ρ' B',
      Ok K l Z n B' H' σ' ρ' ∧ Fr Z B1 H1 B' H' ∧ I i n ρ')
      ⟨m1, ρ, B1, o1, Fr.refl, h0⟩ (fun i σ' H' _ w => ?_)
      (fun i x σ' H' e w => ?_) fun σ' H' w => ?_
    · obtain ⟨n, ρ', B', ok', fr', _⟩ := w
      exact sameT ok'.sub (sameT fr'.sub hT)
    · obtain ⟨n, ρ', B', ok', fr', hI⟩ := w
      obtain ⟨d, e2, q⟩ := (is.mono fr'.sub).get e
      refine hs i n ρ' d e2 hI Z B' H' _ _ (ok'.set q)
        (fun σ2 ρ2 m2 B2 H2 o2 f2 g2 => ⟨m2, ρ2, B2, o2, fr'.trans f2, g2⟩)
        fun v d m2 B2 H2 o2 f2 i2 g2 => ?_
      exact jr v d m2 B2 H2 o2 ((f1.trans fr').trans f2) i2 g2
    · obtain ⟨n, ρ', B', ok', fr', hI⟩ := w
      rw [is.length] at hI
      exact k σ' ρ' n B' H' ok' (f1.trans fr') (hd n ρ' hI)
theorem s_forL {j : Nat}
    (h : EvC K l tl ρ m fun m1 x => ∃ ds, x = .lst ds ∧
      ∃ I : Nat → Nat → Ro → Prop, I 0 m1 ρ ∧
      (∀ i n ρ' d, ds[i]? = some d → I i n ρ' →
        SvC K l tb (ρ'.set j (some (.dat d))) n (fun n2 ρ2 =>
          I (i + 1) n2 ρ2) Rt) ∧
      ∀ n ρ', I ds.length n ρ' → Nx n ρ') :
    SvC K l (tFor (iList K tl) (gName j) tb) ρ m Nx Rt := by
  intro Z B H σ W ok k jr
  refine h Z B H σ _ ok fun v x m1 B1 H1 o1 f1 i1 g1 => ?_
  obtain ⟨ds, rfl, I, h0, hs, hd⟩ := g1
  cases i1 with
  | @lst a xs ds hT is =>
    refine ⟨a, rfl, ⟨xs, SqL.of (o1.sub _ _ hT)⟩, ?_⟩
    refine for_list (xs := xs) (fun i σ' H' => ∃ n ρ' B',
      Ok K l Z n B' H' σ' ρ' ∧ Fr Z B1 H1 B' H' ∧ I i n ρ')
      ⟨m1, ρ, B1, o1, Fr.refl, h0⟩ (fun i σ' H' _ w => ?_)
      (fun i x σ' H' e w => ?_) fun σ' H' w => ?_
    · obtain ⟨n, ρ', B', ok', fr', _⟩ := w
      exact SqL.of (ok'.sub _ _ (fr'.sub _ _ hT))
    · obtain ⟨n, ρ', B', ok', fr', hI⟩ := w
      obtain ⟨d, e2, q⟩ := (is.mono fr'.sub).get e
      refine hs i n ρ' d e2 hI Z B' H' _ _ (ok'.set q)
        (fun σ2 ρ2 m2 B2 H2 o2 f2 g2 => ⟨m2, ρ2, B2, o2, fr'.trans f2, g2⟩)
        fun v d m2 B2 H2 o2 f2 i2 g2 => ?_
      exact jr v d m2 B2 H2 o2 ((f1.trans fr').trans f2) i2 g2
    · obtain ⟨n, ρ', B', ok', fr', hI⟩ := w
      rw [is.length] at hI
      exact k σ' ρ' n B' H' ok' (f1.trans fr') (hd n ρ' hI)
theorem s_forR {j : Nat}
    (h : AvC K l tA ρ m fun m1 x => ∃ c : Int, x = [.int c] ∧
      c < 2 ^ 62 ∧ -(2 ^ 62) ≤ c ∧
      ∃ I : Nat → Nat → Ro → Prop, I 0 m1 ρ ∧
      (∀ (i n : Nat) ρ', i < c.toNat → I i n ρ' →
        SvC K l tb (ρ'.set j (some (.dat (.int i)))) n (fun n2 ρ2 =>
          I (i + 1) n2 ρ2) Rt) ∧
      ∀ n ρ', I c.toNat n ρ' → Nx n ρ') :
    SvC K l (tFor (iRng1 tA) (gName j) tb) ρ m Nx Rt := by
  intro Z B H σ W ok k jr
  refine h Z B H σ _ ok fun vs x m1 B1 H1 o1 f1 i1 g1 => ?_
  obtain ⟨c, rfl, hc, hc2, I, h0, hs, hd⟩ := g1
  cases i1 with
  | cons i1 r =>
    cases r
    cases i1
    refine ⟨c, rfl, hc2, hc, ?_⟩
    refine for_range (lo := 0) (n := c.toNat) (fun i σ' H' => ∃ n ρ' B',
      Ok K l Z n B' H' σ' ρ' ∧ Fr Z B1 H1 B' H' ∧ I i n ρ')
      ⟨m1, ρ, B1, o1, Fr.refl, h0⟩
      (fun i σ' H' hi w => ?_) fun σ' H' w => ?_
    · obtain ⟨n, ρ', B', ok', fr', hI⟩ := w
      have e0 : (0 : Int) + (i : Int) = (i : Int) := Int.zero_add _
      rw [e0]
      refine hs i n ρ' hi hI Z B' H' _ _ (ok'.set (.int _))
        (fun σ2 ρ2 m2 B2 H2 o2 f2 g2 => ⟨m2, ρ2, B2, o2, fr'.trans f2, g2⟩)
        fun v d m2 B2 H2 o2 f2 i2 g2 => ?_
      exact jr v d m2 B2 H2 o2 ((f1.trans fr').trans f2) i2 g2
    · obtain ⟨n, ρ', B', ok', fr', hI⟩ := w
      exact k σ' ρ' n B' H' ok' (f1.trans fr') (hd n ρ' hI)
end
end Wt

namespace Wt
open PySem PySem.Spec PyProof.Rows L2
/-- a def that reads data and tells data -/
def SpP (K : PySem.W.Frag) (pre : List D → Prop) (F : List D → D) : Sp :=
  fun vs H Q _ => ∃ B ds, Same B H ∧ IsAll K B vs ds ∧ pre ds ∧
    ∀ v B2 H2, Same B B2 → Same H H2 → Same B2 H2 →
      (∀ a, H a ≠ none → B a = none → B2 a = none) →
      Is K B2 v (F ds) → Q v H2
/-- a def whose first argument is the hand -/
def SpH (K : PySem.W.Frag) (pre : Nat → List D → Prop)
    (Ψ : List D → Nat → Nat → D → Prop) : Sp :=
  fun vs H Q _ => ∃ l ws B ds m, vs = .ref l :: ws ∧ Same B H ∧
    Hand H l m ∧ B l = none ∧ IsAll K B ws ds ∧ pre m ds ∧
    ∀ v d m' B2 H2, Hand H2 l m' → Same B B2 → Same B2 H2 →
      (∀ a o, a ≠ l → H a = some o → H2 a = some o) →
      (∀ a, H a ≠ none → B a = none → B2 a = none) →
      Ψ ds m m' d → Is K B2 v d → Q v H2
section
variable {K : PySem.W.Frag} {l : Option Addr} {ρ : Ro} {m : Nat}
variable {Φ : Nat → D → Prop} {Θ : Nat → Bool → Prop}
variable {Nx : Nat → Ro → Prop} {Rt : Nat → D → Prop} {ts tb : TS}
variable {ta te tl : TE} {t u : TT} {tA tK : TA}
variable {Z : Addr → Prop} {B H : Hp} {σ : L2.St}
theorem v_P {pre : List D → Prop} {F : List D → D} {ds : List D}
    (hp : pre ds) (q : Φ m (F ds)) {E : XK} :
    VvC K l ρ (fun vs H Q => SpP K pre F vs H Q E) ds m Φ := by
  intro Z B H σ vs Q ok is k
  refine ⟨B, ds, ok.sub, is, hp, fun v B2 H2 s1 s2 s3 fr iv => ?_⟩
  obtain ⟨o2, f2⟩ := ok.step (m' := m) s1 s3
    (fun a e => by
      obtain ⟨g, s, c, q, r⟩ := (ok.hand a e).1
      exact ⟨g, s, c, s2 _ _ q, r⟩)
    (fun a o _ e => s2 a o e) fr
  exact k v _ m B2 H2 o2 f2 iv q
theorem e_callP {pre : List D → Prop} {F : List D → D} {E : XK}
    (h : AvC K l tA ρ m fun m1 ds => pre ds ∧ Φ m1 (F ds)) :
    EvC K l (tCall (SpP K pre F) [] E tA) ρ m Φ := by
  intro Z B H σ Q ok k
  refine h Z B H σ _ ok fun vs ds m1 B1 H1 o1 f1 i1 g1 => ?_
  rw [List.append_nil]
  exact v_P g1.1 g1.2 Z B1 H1 σ vs Q o1 i1 fun v d m2 B2 H2 o2 f2 i2 g2 =>
    k v d m2 B2 H2 o2 (f1.trans f2) i2 g2
theorem e_callH {pre : Nat → List D → Prop}
    {Ψ : List D → Nat → Nat → D → Prop} {E : XK} {i : Nat}
    (hi : ρ[i]? = some (some .hand))
    (h : AvC K l tA ρ m fun m1 ds => pre m1 ds ∧
      ∀ m2 d, Ψ ds m1 m2 d → Φ m2 d) :
    EvC K l (tCall (SpH K pre Ψ) [] E (tCons (tVar i) tA)) ρ m Φ := by
  intro Z B H σ Q ok k
  obtain ⟨v0, e0, a, ha, hv⟩ := ok.sl i _ hi
  subst hv
  refine ⟨_, e0, ?_⟩
  refine h Z B H σ _ ok fun vs ds m1 B1 H1 o1 f1 i1 g1 => ?_
  show SpH K pre Ψ (V.ref a :: vs ++ []) H1 Q E
  rw [List.append_nil]
  refine ⟨a, vs, B1, ds, m1, rfl, o1.sub, (o1.hand a ha).1,
    (o1.hand a ha).2, i1, g1.1, fun v d m2 B2 H2 hh s1 s2 s3 s4 p iv => ?_⟩
  obtain ⟨o2, f2⟩ := o1.step (m' := m2) s1 s2
    (fun b e => by rw [ha] at e; cases e; exact hh)
    (fun b o n e => s3 b o (fun z => n (z ▸ ha)) e) s4
  exact k v d m2 B2 H2 o2 (f1.trans f2) iv (g1.2 m2 d p)
def datR (ds : List D) : Ro := ds.map fun d => some (.dat d)
theorem isAll_get {B : Hp} {vs : List V} {ds : List D} {i : Nat} {s : Sl}
    (h : IsAll K B vs ds) (e : (datR ds)[i]? = some (some s)) :
    ∃ v, (vs.map some)[i]? = some (some v) ∧ SlV K l Z B H v s := by
  unfold datR at e
  rw [List.getElem?_map] at e
  cases q : ds[i]? with
  | none => rw [q] at e; cases e
  | some d =>
    rw [q] at e
    cases e
    obtain ⟨v, e2, z⟩ := h.got q
    exact ⟨v, by rw [List.getElem?_map, e2]; rfl, z⟩
theorem body_P {pre : List D → Prop} {F : List D → D} {vs : List V}
    {Q : VK} {E : XK} {N : List Str} (h : SpP K pre F vs H Q E)
    (hb : ∀ ds, pre ds → vs.length = ds.length →
      SvC K none ts (datR ds ++ List.replicate (N.length - ds.length) none)
        0 (fun _ _ => F ds = .non) fun _ d => d = F ds) :
    ts { nx := fun _ H' => Q .non H', rt := Q } (start N vs) H := by
  obtain ⟨B, ds, sb, is, hp, k⟩ := h
  have hl := is.length
  have ok : Ok K none (fun a => H a ≠ none ∧ B a = none) 0 B H
      (start N vs) (datR ds ++ List.replicate (N.length - ds.length) none) := by
    refine ⟨⟨sb, fun a e => (nomatch e), fun z h => ⟨h.1, h.2, nofun⟩⟩,
      ?_, fun i s e => ?_, fun i j ds1 es a n po p2 e1 => ?_⟩
    · unfold L2.start datR
      simp [hl]
    · rcases Nat.lt_or_ge i ds.length with hi | hi
      · rw [List.getElem?_append_left (by unfold datR; simpa using hi)] at e
        obtain ⟨v, e2, q⟩ := isAll_get (l := none)
          (Z := fun a => H a ≠ none ∧ B a = none) (H := H) is e
        refine ⟨v, ?_, q⟩
        unfold L2.start
        rw [List.getElem?_append_left (by simpa [hl] using hi)]
        exact e2
      · rw [List.getElem?_append_right (by unfold datR; simpa using hi)] at e
        rw [List.getElem?_replicate] at e
        split at e <;> cases e
    · rcases Nat.lt_or_ge i ds.length with hi | hi
      · rw [List.getElem?_append_left (by unfold datR; simpa using hi)] at e1
        unfold datR at e1
        rw [List.getElem?_map] at e1
        cases q : ds[i]? with
        | none => rw [q] at e1; cases e1
        | some d => rw [q] at e1; cases e1; cases po
      · rw [List.getElem?_append_right (by unfold datR; simpa using hi)] at e1
        rw [List.getElem?_replicate] at e1
        split at e1 <;> cases e1
  have fin : ∀ v d m' B2 H2, Bs none (fun a => H a ≠ none ∧ B a = none) m' B2 H2 →
      Fr (fun a => H a ≠ none ∧ B a = none) B H B2 H2 → Is K B2 v d →
      d = F ds → Q v H2 := by
    intro v d m' B2 H2 o2 f2 i2 e
    subst e
    refine k v B2 H2 f2.sub (fun b o e => ?_) o2.sub
      (fun a h1 h2 => (o2.zs a ⟨h1, h2⟩).2.1) i2
    cases q : B b with
    | none => rw [f2.kept b ⟨by rw [e]; exact nofun, q⟩]; exact e
    | some x =>
      rw [sb b x q] at e
      cases e
      exact o2.sub b _ (f2.sub b _ q)
  exact hb ds hp hl _ B H _ _ ok
    (fun σ' ρ' m' B2 H2 o2 f2 g2 => fin .non .non m' B2 H2 o2.toBs f2 .non g2.symm)
    fin
theorem body_H {pre : Nat → List D → Prop}
    {Ψ : List D → Nat → Nat → D → Prop} {vs : List V}
    {Q : VK} {E : XK} {N : List Str} (h : SpH K pre Ψ vs H Q E)
    (hb : ∀ a ds m, pre m ds → vs.length = ds.length + 1 →
      SvC K (some a) ts (some .hand :: (datR ds ++
        List.replicate (N.length - (ds.length + 1)) none))
        m (fun m' _ => Ψ ds m m' .non) (Ψ ds m)) :
    ts { nx := fun _ H' => Q .non H', rt := Q } (start N vs) H := by
  obtain ⟨a, ws, B, ds, m, rfl, sb, hh, hB, is, hp, k⟩ := h
  have hl := is.length
  have ok : Ok K (some a) (fun b => H b ≠ none ∧ B b = none ∧ b ≠ a) m B H
      (start N (.ref a :: ws)) (some .hand :: (datR ds ++
        List.replicate (N.length - (ds.length + 1)) none)) := by
    refine ⟨⟨sb, fun b e => ?_, fun z h => ⟨h.1, h.2.1, fun e => ?_⟩⟩,
      ?_, fun i s e => ?_, fun i j ds1 es b n po p2 e1 => ?_⟩
    · cases e
      exact ⟨hh, hB⟩
    · cases e
      exact h.2.2 rfl
    · unfold L2.start datR
      simp [hl]
    · cases i with
      | zero =>
        cases e
        exact ⟨.ref a, rfl, a, rfl, rfl⟩
      | succ i =>
        rw [List.getElem?_cons_succ] at e
        rcases Nat.lt_or_ge i ds.length with hi | hi
        · rw [List.getElem?_append_left (by unfold datR; simpa using hi)] at e
          obtain ⟨v, e2, q⟩ := isAll_get (l := some a)
            (Z := fun b => H b ≠ none ∧ B b = none ∧ b ≠ a) (H := H) is e
          refine ⟨v, ?_, q⟩
          unfold L2.start
          rw [List.map_cons, List.cons_append, List.getElem?_cons_succ,
            List.getElem?_append_left (by simpa [hl] using hi)]
          exact e2
        · rw [List.getElem?_append_right (by unfold datR; simpa using hi)] at e
          rw [List.getElem?_replicate] at e
          split at e <;> cases e
    · cases i with
      | zero => cases e1; cases po
      | succ i =>
        rw [List.getElem?_cons_succ] at e1
        rcases Nat.lt_or_ge i ds.length with hi | hi
        · rw [List.getElem?_append_left (by unfold datR; simpa using hi)] at e1
          unfold datR at e1
          rw [List.getElem?_map] at e1
          cases q : ds[i]? with
          | none => rw [q] at e1; cases e1
          | some d => rw [q] at e1; cases e1; cases po
        · rw [List.getElem?_append_right (by unfold datR; simpa using hi)] at e1
          rw [List.getElem?_replicate] at e1
          split at e1 <;> cases e1
  have fin : ∀ v d m' B2 H2,
      Bs (some a) (fun b => H b ≠ none ∧ B b = none ∧ b ≠ a) m' B2 H2 →
      Fr (fun b => H b ≠ none ∧ B b = none ∧ b ≠ a) B H B2 H2 →
      Is K B2 v d → Ψ ds m m' d → Q v H2 := by
    intro v d m' B2 H2 o2 f2 i2 e
    refine k v d m' B2 H2 (o2.hand a rfl).1 f2.sub o2.sub
      (fun b o n e => ?_) (fun b h1 h2 => ?_) e i2
    · cases q : B b with
      | none =>
        rw [f2.kept b ⟨by rw [e]; exact nofun, q, n⟩]
        exact e
      | some x =>
        rw [sb b x q] at e
        cases e
        exact o2.sub b _ (f2.sub b _ q)
    · by_cases n : b = a
      · subst n
        exact (o2.hand b rfl).2
      · exact (o2.zs b ⟨h1, h2, n⟩).2.1
  exact hb a ds m hp (by simp [hl]) _ B H _ _ ok
    (fun σ' ρ' m' B2 H2 o2 f2 g2 => fin .non .non m' B2 H2 o2.toBs f2 .non g2)
    fin
theorem Ok.setOwn {p : Addr} {xs : List V} {ds : List D} {i : Nat}
    (h : Ok K l (fun a => Z a ∨ a = p) m B H σ ρ) (hz : ¬ Z p)
    (hp : H p = some (.lst xs)) (is : IsAll K B xs ds) :
    Ok K l Z m B H (σ.set i (some (.ref p))) (ρ.set i (some (.own ds))) := by
  obtain ⟨z1, z2, z3⟩ := h.zs p (.inr rfl)
  have at_i : ∀ {s : Sl}, (ρ.set i (some (.own ds)))[i]? = some (some s) →
      i < ρ.length ∧ s = .own ds := by
    intro s e
    obtain ⟨hi, q⟩ := List.getElem?_eq_some_iff.mp e
    rw [List.length_set] at hi
    rw [List.getElem?_set_self hi] at e
    cases e
    exact ⟨hi, rfl⟩
  refine ⟨⟨h.sub, h.hand, fun z hz' => h.zs z (.inl hz')⟩, ?_, ?_, ?_⟩
  · rw [List.length_set, List.length_set]
    exact h.len
  · intro j s e
    by_cases hj : i = j
    · subst hj
      obtain ⟨hi, rfl⟩ := at_i e
      exact ⟨.ref p, List.getElem?_set_self (by rw [h.len]; exact hi),
        p, xs, rfl, hp, z2, hz, z3, is⟩
    · rw [List.getElem?_set_ne hj] at e ⊢
      obtain ⟨v, e1, q⟩ := h.sl j s e
      refine ⟨v, e1, ?_⟩
      cases s with
      | dat d => exact q
      | hand => exact q
      | own es =>
        obtain ⟨a, ys, rfl, q1, q2, q3, q4, q5⟩ := q
        exact ⟨a, ys, rfl, q1, q2, fun z => q3 (.inl z), q4, q5⟩
      | obj R =>
        obtain ⟨a, o', rfl, q1, q2, q3, q4, q5⟩ := q
        exact ⟨a, o', rfl, q1, q2, fun z => q3 (.inl z), q4, q5⟩
  · intro j k ds1 es a n p1 p2 e1 e2 s1 s2
    have other : ∀ (k : Nat) es, es.owns = true → i ≠ k → ρ[k]? = some (some es) →
        σ[k]? ≠ some (some (.ref p)) := by
      intro k es po hk e s
      obtain ⟨v, e1, q⟩ := h.sl k _ e
      obtain ⟨a, ys, rfl, q1, q2, q3, q4⟩ := SlV.owned po q
      rw [e1] at s
      cases s
      exact q3 (.inr rfl)
    by_cases hj : i = j
    · subst hj
      have hk : i ≠ k := n
      rw [List.getElem?_set_ne hk] at e2 s2
      obtain ⟨hi, _⟩ := at_i e1
      rw [List.getElem?_set_self (by rw [h.len]; exact hi)] at s1
      cases s1
      exact other k es p2 hk e2 s2
    · rw [List.getElem?_set_ne hj] at e1 s1
      by_cases hk : i = k
      · subst hk
        obtain ⟨hi, _⟩ := at_i e2
        rw [List.getElem?_set_self (by rw [h.len]; exact hi)] at s2
        cases s2
        exact other j ds1 p1 hj e1 s1
      · rw [List.getElem?_set_ne hk] at e2 s2
        exact h.dis j k ds1 es a n p1 p2 e1 e2 s1 s2
/-- x = [] that will grow -/
theorem s_own0 {i : Nat} (q : Nx m (ρ.set i (some (.own [])))) :
    SvC K l (tAsg (tLst tNil) (gName i)) ρ m Nx Rt := by
  intro Z B H σ W ok k _
  refine ⟨Nat.zero_le _, fun p hp => ?_⟩
  have hz : ¬ Z p := fun z => (ok.zs p z).1 hp
  refine k _ _ m B _ ((ok.aside (o := .lst []) hp).setOwn hz upd_same .nil)
    ⟨Same.refl B, fun z hz' => upd_ne fun e => hz (e ▸ hz')⟩ q
/-- an own list is written -/
theorem Ok.grow {i : Nat} {ds es : List D} {a : Addr} {xs : List V}
    (h : Ok K l Z m B H σ ρ) (hi : ρ[i]? = some (some (.own ds)))
    (hs : σ[i]? = some (some (.ref a))) (is : IsAll K B xs es) :
    Ok K l Z m B (upd H a (.lst xs)) σ (ρ.set i (some (.own es))) ∧
      Fr Z B H B (upd H a (.lst xs)) := by
  obtain ⟨v, e1, b, ys, rfl, q1, q2, q3, q4, q5⟩ := h.sl i _ hi
  rw [hs] at e1
  cases e1
  have hiL : i < ρ.length := (List.getElem?_eq_some_iff.mp hi).1
  refine ⟨⟨⟨fun b x e => ?_, fun b e => ⟨?_, (h.hand b e).2⟩, ?_⟩, ?_, ?_, ?_⟩,
    ⟨Same.refl B, fun z hz => upd_ne fun e => q3 (e ▸ hz)⟩⟩
  · rw [upd_ne (fun (z : b = a) => by subst z; rw [q2] at e; cases e)]
    exact h.sub b x e
  · obtain ⟨g, s, c, q, r⟩ := (h.hand b e).1
    refine ⟨g, s, c, ?_, r⟩
    rw [upd_ne (fun (z : b = a) => q4 (z ▸ e))]
    exact q
  · intro z hz
    obtain ⟨w1, w2, w3⟩ := h.zs z hz
    refine ⟨?_, w2, w3⟩
    rw [upd_ne (fun (e : z = a) => q3 (e ▸ hz))]
    exact w1
  · rw [List.length_set]
    exact h.len
  · intro j s e
    by_cases hj : i = j
    · subst hj
      rw [List.getElem?_set_self hiL] at e
      cases e
      exact ⟨.ref a, hs, a, xs, rfl, upd_same, q2, q3, q4, is⟩
    · rw [List.getElem?_set_ne hj] at e
      obtain ⟨v, e1, q⟩ := h.sl j s e
      refine ⟨v, e1, ?_⟩
      cases s with
      | dat d => exact q
      | hand => exact q
      | own fs =>
        obtain ⟨b, zs, rfl, p1, p2, p3, p4, p5⟩ := q
        refine ⟨b, zs, rfl, ?_, p2, p3, p4, p5⟩
        rw [upd_ne (fun (z : b = a) => by
          subst z
          exact h.dis i j _ _ b hj rfl rfl hi e hs e1)]
        exact p1
      | obj R =>
        obtain ⟨b, zs, rfl, p1, p2, p3, p4, p5⟩ := q
        refine ⟨b, zs, rfl, ?_, p2, p3, p4, p5⟩
        rw [upd_ne (fun (z : b = a) => by
          subst z
          exact h.dis i j _ _ b hj rfl rfl hi e hs e1)]
        exact p1
  · intro j k ds1 es1 b n p1 p2 e1 e2
    have back : ∀ (j : Nat) x, x.owns = true → (ρ.set i (some (.own es)))[j]? =
        some (some x) → ∃ y, y.owns = true ∧ ρ[j]? = some (some y) := by
      intro j x px e
      by_cases hj : i = j
      · subst hj; exact ⟨_, rfl, hi⟩
      · rw [List.getElem?_set_ne hj] at e; exact ⟨x, px, e⟩
    obtain ⟨ds2, o1, e1'⟩ := back j ds1 p1 e1
    obtain ⟨es2, o2, e2'⟩ := back k es1 p2 e2
    exact h.dis j k ds2 es2 b n o1 o2 e1' e2'
theorem s_app {i : Nat} {ds : List D} (hi : ρ[i]? = some (some (.own ds)))
    (hl : ds.length < 100000)
    (h : EvC K l te ρ m fun m1 d =>
      Nx m1 (ρ.set i (some (.own (ds ++ [d]))))) :
    SvC K l (tDrop (tBM K "list" rAppend (tVar i) (tCons te tNil))) ρ m
      Nx Rt := by
  intro Z B H σ W ok k _
  obtain ⟨v, e1, a, xs, rfl, q1, q2, q3, q4, q5⟩ := ok.sl i _ hi
  refine ⟨_, e1, .inl ⟨rfl, _, SqL.of q1⟩, ?_⟩
  refine h Z B H σ _ ok fun v d m1 B1 H1 o1 f1 i1 g1 => ?_
  obtain ⟨v', e1', a', xs', hv, w1, w2, w3, w4, w5⟩ := o1.sl i _ hi
  subst hv
  rw [e1] at e1'
  cases e1'
  refine ⟨a, xs', v, rfl, rfl, w1, ?_, ?_⟩
  · rw [w5.length]
    exact Nat.lt_of_lt_of_le hl (by decide)
  · obtain ⟨o2, f2⟩ := o1.grow hi e1 (w5.append (.cons i1 .nil))
    exact k _ _ m1 B1 _ o2 (f1.trans f2) g1
theorem s_ext {i : Nat} {ds : List D} (hi : ρ[i]? = some (some (.own ds)))
    (h : EvC K l te ρ m fun m1 x => ∃ es, x = .lst es ∧
      ds.length + es.length ≤ 100000 ∧
      Nx m1 (ρ.set i (some (.own (ds ++ es))))) :
    SvC K l (tDrop (tBM K "list" rExtend (tVar i) (tCons te tNil))) ρ m
      Nx Rt := by
  intro Z B H σ W ok k _
  obtain ⟨v, e1, a, xs, rfl, q1, q2, q3, q4, q5⟩ := ok.sl i _ hi
  refine ⟨_, e1, .inl ⟨rfl, _, SqL.of q1⟩, ?_⟩
  refine h Z B H σ _ ok fun v d m1 B1 H1 o1 f1 i1 g1 => ?_
  obtain ⟨es, rfl, hl, g1⟩ := g1
  obtain ⟨v', e1', a', xs', hv, w1, w2, w3, w4, w5⟩ := o1.sl i _ hi
  subst hv
  rw [e1] at e1'
  cases e1'
  cases i1 with
  | @lst b zs _ hb isb =>
    refine ⟨a, b, xs', zs, rfl, rfl, w1, o1.sub _ _ hb, ?_, ?_⟩
    · rw [w5.length, isb.length]
      exact Nat.le_trans hl (by decide)
    · obtain ⟨o2, f2⟩ := o1.grow hi e1 (w5.append isb)
      exact k _ _ m1 B1 _ o2 (f1.trans f2) g1
/-- an own list is data from here on -/
theorem s_freeze {i : Nat} {ds : List D}
    (hi : ρ[i]? = some (some (.own ds)))
    (h : SvC K l ts (ρ.set i (some (.dat (.lst ds)))) m Nx Rt) :
    SvC K l ts ρ m Nx Rt := by
  intro Z B H σ W ok k j
  obtain ⟨v, e1, a, xs, rfl, q1, q2, q3, q4, q5⟩ := ok.sl i _ hi
  have sm : Same B (upd B a (.lst xs)) := same_new q2
  have hiL : i < ρ.length := (List.getElem?_eq_some_iff.mp hi).1
  have ok2 : Ok K l Z m (upd B a (.lst xs)) H σ
      (ρ.set i (some (.dat (.lst ds)))) := by
    refine ⟨⟨fun b x e => ?_, fun b e => ⟨(ok.hand b e).1, ?_⟩, ?_⟩, ?_, ?_, ?_⟩
    · by_cases n : b = a
      · subst n; rw [upd_same] at e; cases e; exact q1
      · rw [upd_ne n] at e; exact ok.sub b x e
    · rw [upd_ne (fun (z : b = a) => q4 (z ▸ e))]
      exact (ok.hand b e).2
    · intro z hz
      obtain ⟨w1, w2, w3⟩ := ok.zs z hz
      refine ⟨w1, ?_, w3⟩
      rw [upd_ne (fun (e : z = a) => q3 (e ▸ hz))]
      exact w2
    · rw [List.length_set]
      exact ok.len
    · intro j s e
      by_cases hj : i = j
      · subst hj
        rw [List.getElem?_set_self hiL] at e
        cases e
        exact ⟨_, e1, .lst upd_same (q5.mono sm)⟩
      · rw [List.getElem?_set_ne hj] at e
        obtain ⟨v, e2, q⟩ := ok.sl j s e
        refine ⟨v, e2, ?_⟩
        cases s with
        | dat d => exact Is.mono sm q
        | hand => exact q
        | own fs =>
          obtain ⟨b, zs, rfl, p1, p2, p3, p4, p5⟩ := q
          refine ⟨b, zs, rfl, p1, ?_, p3, p4, p5.mono sm⟩
          rw [upd_ne (fun (z : b = a) => by
            subst z
            exact ok.dis i j _ _ b hj rfl rfl hi e e1 e2)]
          exact p2
        | obj R =>
          obtain ⟨b, zs, rfl, p1, p2, p3, p4, p5, p6⟩ := q
          refine ⟨b, zs, rfl, p1, ?_, p3, p4, p6 _ _ sm p5, p6⟩
          rw [upd_ne (fun (z : b = a) => by
            subst z
            exact ok.dis i j _ _ b hj rfl rfl hi e e1 e2)]
          exact p2
    · intro j k ds1 es b n p1 p2 e1' e2'
      have ne : ∀ (j : Nat) x, x.owns = true → (ρ.set i (some (.dat (.lst ds))))[j]? =
          some (some x) → ρ[j]? = some (some x) := by
        intro j x px e
        by_cases hj : i = j
        · subst hj; rw [List.getElem?_set_self hiL] at e; cases e; cases px
        · rw [List.getElem?_set_ne hj] at e; exact e
      exact ok.dis j k ds1 es b n p1 p2 (ne _ _ p1 e1') (ne _ _ p2 e2')
  have f0 : Fr Z B H (upd B a (.lst xs)) H := ⟨sm, fun _ _ => rfl⟩
  exact h Z _ H σ W ok2
    (fun σ2 ρ2 m2 B2 H2 o2 f2 g2 => k σ2 ρ2 m2 B2 H2 o2 (f0.trans f2) g2)
    fun v d m2 B2 H2 o2 f2 i2 g2 => j v d m2 B2 H2 o2 (f0.trans f2) i2 g2
end
end Wt

namespace Wt
open PySem PySem.Spec PyProof.Rows L2
mutual
def D.py : D → PyData
  | .non => .none
  | .bl b => .bool b
  | .int i => .int i
  | .str x => .str x
  | .lst xs => .list (D.pys xs)
  | .tup xs => .tuple (D.pys xs)
  | .dic kis => .dict (kis.map fun p => (.int p.1, .int p.2))
  | .ins _ _ _ => .none
  | .scr _ => .none
  | .dct _ _ => .none
def D.pys : List D → List PyData
  | [] => []
  | x :: xs => D.py x :: D.pys xs
end
mutual
/-- no instance, no script within -/
def D.plain : D → Bool
  | .lst xs => D.plains xs
  | .tup xs => D.plains xs
  | .ins _ _ _ => false
  | .scr _ => false
  | .dct _ _ => false
  | _ => true
def D.plains : List D → Bool
  | [] => true
  | x :: xs => D.plain x && D.plains xs
end
mutual
def D.noLst : D → Bool
  | .lst _ => false
  | .tup xs => D.noLsts xs
  | _ => true
def D.noLsts : List D → Bool
  | [] => true
  | x :: xs => D.noLst x && D.noLsts xs
end
section
variable {X : Cx} {pins : List (Addr × Obj)} {σ : L2.St} {H B : Hp}
variable {s : Shared}
theorem kv_reads {w : World} {P : Program} (h : Heap) :
    ∀ {kis : List (Int × Int)} {vs : List (Key × Value)} {es : List DictEntry},
    KV (kis.map fun p => ((Sum.inl p.1 : Key), V.int p.2)) vs →
    Pairs (mixKind P w) es vs →
    ReadsAll h (es.map (·.key)) ((kis.map fun p =>
      (PyData.int p.1, PyData.int p.2)).map (·.1)) [] ∧
    ReadsAll h (es.map (·.val)) ((kis.map fun p =>
      (PyData.int p.1, PyData.int p.2)).map (·.2)) []
  | [], _, _, k, p => by
    cases k
    cases p
    exact ⟨.nil, .nil⟩
  | (i, j) :: kis, _, _, k, p => by
    cases k with
    | @cons a b as bs hab r =>
      cases p with
      | @cons e kv es' kvs h1 h2 pr =>
        obtain ⟨q1, q2⟩ := kv_reads (w := w) (P := P) h r pr
        obtain ⟨e1, t, e2⟩ := hab
        have h1' : keyIs b.1 e.key = true := h1
        rw [← e1] at h1'
        rcases keyIs_shape h1' with ⟨i', t', ei, ek⟩ | ⟨x, t', ei, _⟩
        · cases ei
          refine ⟨?_, ?_⟩
          · show ReadsAll h (e.key :: _) (PyData.int i :: _) ([] ++ [])
            rw [ek]
            exact .cons (.int _ _) q1
          · show ReadsAll h (e.val :: _) (PyData.int j :: _) ([] ++ [])
            rw [h2, e2]
            exact .cons (.int _ _) q2
        · cases ei
mutual
theorem Is.reads (I : Inv X pins σ H s) (sb : Same B H) :
    ∀ {v : V} {d : D} {u : Value}, Is X.K B v d → d.plain = true →
      RelV v u → ∃ as, Reads s.heap u d.py as ∧
        (d.noLst = true → sysModules ∉ as)
  | _, _, _, .non, _, r => by
    cases r
    exact ⟨_, .none, fun _ => nofun⟩
  | _, _, _, .bl b, _, r => by
    cases r
    exact ⟨_, .bool b, fun _ => nofun⟩
  | _, _, _, .int i, _, r => by
    obtain ⟨t, rfl⟩ := r
    exact ⟨_, .int i t, fun _ => nofun⟩
  | _, _, _, .str x, _, r => by
    obtain ⟨t, rfl⟩ := r
    exact ⟨_, .str x t, fun _ => nofun⟩
  | _, _, _, .lst h is, p, r => by
    cases r
    obtain ⟨its, rv, ⟨o, n, ho, hc, _, hd⟩, _⟩ := I.list (SqL.of (sb _ _ h))
    obtain ⟨as, hr, _⟩ := IsAll.reads I sb is (by simpa [D.plain] using p) rv
    exact ⟨_, .list ho hc hd hr, fun z => by simp [D.noLst] at z⟩
  | _, _, _, .tup h is _, p, r => by
    cases r
    obtain ⟨its, rv, ⟨o, ho, hc, n, hd⟩, _⟩ := I.tuple (sameT sb h)
    obtain ⟨as, hr, hn⟩ := IsAll.reads I sb is (by simpa [D.plain] using p) rv
    exact ⟨_, .tuple ho hc hd hr, fun z => hn (by simpa [D.noLst] using z)⟩
  | _, _, _, .dic h, _, r => by
    cases r
    obtain ⟨_, hs, vs, kv, o, es, ep, ho, hx, hd, _, pr, _⟩ := (rdMono sb h).ok I.hok
    obtain ⟨q1, q2⟩ := kv_reads (P := X.prog) (w := X.w) s.heap kv pr
    refine ⟨_, .dict ho hx.1 hd q1 q2, fun _ hm => ?_⟩
    rw [List.append_nil, List.mem_singleton] at hm
    rw [← hm] at hs
    simp at hs
  | _, _, _, .ins _ _, p, _ => by simp [D.plain] at p
  | _, _, _, .scr _, p, _ => by simp [D.plain] at p
  | _, _, _, .dct _ _ _, p, _ => by simp [D.plain] at p
theorem IsAll.reads (I : Inv X pins σ H s) (sb : Same B H) :
    ∀ {vs : List V} {ds : List D} {us : List Value}, IsAll X.K B vs ds →
      D.plains ds = true → Vals vs us → ∃ as, ReadsAll s.heap us (D.pys ds) as ∧
        (D.noLsts ds = true → sysModules ∉ as)
  | _, _, _, .nil, _, r => by
    cases r
    exact ⟨_, .nil, fun _ => nofun⟩
  | _, _, _, .cons h is, p, r => by
    cases r with
    | cons r1 r2 =>
      rw [D.plains, Bool.and_eq_true] at p
      obtain ⟨as, q1, n1⟩ := Is.reads I sb h p.1 r1
      obtain ⟨bs, q2, n2⟩ := IsAll.reads I sb is p.2 r2
      refine ⟨_, .cons q1 q2, fun z => ?_⟩
      rw [D.noLsts, Bool.and_eq_true] at z
      intro hm
      rcases List.mem_append.mp hm with hm | hm
      · exact n1 z.1 hm
      · exact n2 z.2 hm
end
end
section
variable {P : Program} {w : World} {h : Heap}
/-- a value whose text repr tells -/
def Told (P : Program) (w : World) (h : Heap) (u : Value) (d : PyData) : Prop :=
  ∃ bs, ReadAtMost h d.depth bs ∧ ReprK P w bs h d.depth u d.shown
def ToldAll (P : Program) (w : World) (h : Heap) (us : List Value) (ds : List PyData) : Prop :=
  ∃ bs, ReadAtMost h (PyData.depthAll ds) bs ∧
    ReprAllK P w bs h (PyData.depthAll ds) us (PyData.shownAll ds)
theorem told_plain {u : Value} {d : PyData} {as : List Addr} (r : Reads h u d as)
    (ab : d.showable = true) (no : sysModules ∉ as) (sm : d.shown.length ≤ sizeLine) :
    Told P w h u d := ReprK.of_reads r ab (fun _ => no) sm
theorem ToldAll.add {u : Value} {us : List Value} {d : PyData} {ds : List PyData}
    (x : Told P w h u d) (y : ToldAll P w h us ds) : ToldAll P w h (u :: us) (d :: ds) := by
  obtain ⟨b1, h1, k1⟩ := x
  obtain ⟨b2, h2, k2⟩ := y
  have l1 : d.depth ≤ PyData.depthAll (d :: ds) := by
    rw [PyData.depthAll]; exact Nat.le_max_left _ _
  have l2 : PyData.depthAll ds ≤ PyData.depthAll (d :: ds) := by
    rw [PyData.depthAll]; exact Nat.le_max_right _ _
  refine ⟨b1 ++ b2, (h1.mono l1).append (h2.mono l2), ?_⟩
  rw [PyData.shownAll]
  exact .cons ((k1.more fun b => List.mem_append_left b2).level_le l1)
    (k2.more_le (fun b => List.mem_append_right b1) l2)
/-- the same of a list's or a tuple's items, with what its own repr needs -/
structure Within (P : Program) (w : World) (h : Heap) (a : Addr) (us : List Value)
    (ds : List PyData) (bs : List Addr) : Prop where
  most : ReadAtMost h (PyData.depthAll ds) bs
  all : ReprAllK P w bs h (PyData.depthAll ds) us (PyData.shownAll ds)
  out : a ∉ bs
theorem ToldAll.within {a : Addr} {us : List Value} {ds : List PyData} {d : PyData}
    {as : List Addr} (y : ToldAll P w h us ds) (r : Reads h (.ref a) d as)
    (hd : d.depth = PyData.depthAll ds + 1) : ∃ bs, Within P w h a us ds bs := by
  obtain ⟨bs, h1, k1⟩ := y
  exact ⟨bs, h1, k1, not_mem_of_deeper r (by omega) h1⟩
end
section
variable {X : Cx} {pins : List (Addr × Obj)} {σ : L2.St} {H B : Hp}
variable {s : Shared}
mutual
theorem Is.told (I : Inv X pins σ H s) (sb : Same B H) :
    ∀ {v : V} {d : D} {u : Value}, Is X.K B v d → d.plain = true → RelV v u →
      d.py.showable = true → d.py.shown.length ≤ sizeLine →
      Told X.prog X.w s.heap u d.py
  | _, _, _, .non, _, r, ab, sm => by
    cases r
    exact told_plain .none ab nofun sm
  | _, _, _, .bl b, _, r, ab, sm => by
    cases r
    exact told_plain (.bool b) ab nofun sm
  | _, _, _, .int i, _, r, ab, sm => by
    obtain ⟨t, rfl⟩ := r
    exact told_plain (.int i t) ab nofun sm
  | _, _, _, .str x, _, r, ab, sm => by
    obtain ⟨t, rfl⟩ := r
    exact told_plain (.str x t) ab nofun sm
  | _, _, _, .lst (ds := ds) hB is, p, r, ab, sm => by
    have rd := Is.reads I sb (.lst hB is) p r
    cases r
    obtain ⟨as, rd, _⟩ := rd
    obtain ⟨its, rv, ⟨o, n, ho, hc, _, hd⟩, _⟩ := I.list (SqL.of (sb _ _ hB))
    have sm : (listText (PyData.shownAll (D.pys ds))).length ≤ sizeLine := by
      rw [D.py, PyData.shown] at sm; exact sm
    obtain ⟨bs, W⟩ := (IsAll.told I sb is (by simpa [D.plain] using p) rv
      (by rw [D.py, PyData.showable] at ab; exact ab)
      fun t ht => Nat.le_trans (listText_mem_le ht) sm).within rd (by rw [D.py, PyData.depth])
    refine ⟨_, ReadAtMost.cons rd (by rw [D.py, PyData.depth]; omega) W.most, ?_⟩
    rw [D.py, PyData.depth, PyData.shown]
    cases its with
    | cons x q =>
      exact .list ho hc hd W.out (by simpa using W.all.length_eq)
        fun i y e => W.all.item i y (by simpa using e)
    | nil =>
      cases rv
      cases is
      exact .listEmpty ho hc hd
  | _, _, _, .tup (ds := ds) hB is c, p, r, ab, sm => by
    have rd := Is.reads I sb (.tup hB is c) p r
    cases r
    obtain ⟨as, rd, _⟩ := rd
    obtain ⟨its, rv, ⟨o, ho, hc, n, hd⟩, _⟩ := I.tuple (sameT sb hB)
    have sm : (tupleText (PyData.shownAll (D.pys ds))).length ≤ sizeLine := by
      rw [D.py, PyData.shown] at sm; exact sm
    obtain ⟨bs, W⟩ := (IsAll.told I sb is (by simpa [D.plain] using p) rv
      (by rw [D.py, PyData.showable] at ab; exact ab)
      fun t ht => Nat.le_trans (tupleText_mem_le ht) sm).within rd (by rw [D.py, PyData.depth])
    refine ⟨_, ReadAtMost.cons rd (by rw [D.py, PyData.depth]; omega) W.most, ?_⟩
    rw [D.py, PyData.depth, PyData.shown]
    exact .tuple ho hc hd W.out W.all
  | _, _, _, .dic hB, p, r, ab, sm => by
    obtain ⟨as, rd, no⟩ := Is.reads I sb (.dic hB) p r
    exact told_plain rd ab (no rfl) sm
  | _, _, _, .ins _ _, p, _, _, _ => by simp [D.plain] at p
  | _, _, _, .scr _, p, _, _, _ => by simp [D.plain] at p
  | _, _, _, .dct _ _ _, p, _, _, _ => by simp [D.plain] at p
theorem IsAll.told (I : Inv X pins σ H s) (sb : Same B H) :
    ∀ {vs : List V} {ds : List D} {us : List Value}, IsAll X.K B vs ds →
      D.plains ds = true → Vals vs us → PyData.showableAll (D.pys ds) = true →
      (∀ t ∈ PyData.shownAll (D.pys ds), t.length ≤ sizeLine) →
      ToldAll X.prog X.w s.heap us (D.pys ds)
  | _, _, _, .nil, _, r, _, _ => by
    cases r
    exact ⟨[], nofun, .nil⟩
  | _, _, _, .cons h is, p, r, ab, sm => by
    cases r with
    | cons r1 r2 =>
      rw [D.plains, Bool.and_eq_true] at p
      rw [D.pys, PyData.showableAll, Bool.and_eq_true] at ab
      rw [D.pys, PyData.shownAll] at sm
      exact ToldAll.add (Is.told I sb h p.1 r1 ab.1 (sm _ List.mem_cons_self))
        (IsAll.told I sb is p.2 r2 ab.2 fun t ht => sm t (List.mem_cons_of_mem _ ht))
end
end
/-- what can be shown -/
structure Shows (d : D) : Prop where
  plain : d.plain = true
  able : d.py.showable = true
  deep : d.py.depth ≤ 100
  small : d.py.shown.length ≤ sizeLine
def rRepr (K : PySem.W.Frag) : List V → Hp → VK → Prop := fun vs H Q =>
  ∃ v d B, vs = [v] ∧ Same B H ∧ Is K B v d ∧ Shows d ∧
    Q (.str d.py.shown) H
theorem call_reprD {X : Cx} {k : Nat} (hG : X.A.guards = some [])
    (hr : Room k X.A) : CallR X (.builtin "repr") (rRepr X.K) := by
  intro pins s σ H xs us Q I r h
  obtain ⟨v, d, B, rfl, sb, is, sh, q⟩ := h
  obtain ⟨u, rfl, ru⟩ := vals1 r
  have hun : X.A.units + 200 < cLine := by have := hr.un; omega
  have fin : ∀ h' t tk, (∀ b o, s.heap.get? b = some o → h'.get? b = some o) →
      EP X pins σ Q (.str d.py.shown t) { s with heap := h', toks := tk } :=
    fun h' t tk hk => ⟨.str d.py.shown, H, I.kept hk, ⟨t, rfl⟩, q⟩
  cases is with
  | non =>
    cases ru
    exact PySem.P.repr_of_none ⟨.str _, H, I.tok _, ⟨_, rfl⟩, q⟩
  | bl b =>
    cases ru
    exact PySem.P.repr_of_bool ⟨.str _, H, I.tok _, ⟨_, rfl⟩, q⟩
  | int i =>
    obtain ⟨t, rfl⟩ := ru
    have e : i.natAbs.log2 < 1920 := by
      have := sh.able
      simpa [D.py, PyData.showable] using this
    exact PySem.P.repr_of_int e ⟨.str _, H, I.tok _, ⟨_, rfl⟩, q⟩
  | str x =>
    obtain ⟨t, rfl⟩ := ru
    exact PySem.P.repr_of_str ⟨.str _, H, I.tok _, ⟨_, rfl⟩, q⟩ sh.small
  | @lst a ys ds h is =>
    cases ru
    obtain ⟨as, rd, _⟩ := Is.reads I sb (.lst h is) sh.plain rfl
    obtain ⟨its, rv, ⟨o, n, ho, hc, _, hd⟩, _⟩ := I.list (SqL.of (sb _ _ h))
    have sm : (listText (PyData.shownAll (D.pys ds))).length ≤ sizeLine := by
      have := sh.small
      rw [D.py, PyData.shown] at this; exact this
    obtain ⟨bs, W⟩ := (IsAll.told I sb is (by simpa [D.plain] using sh.plain) rv
      (by have := sh.able; rw [D.py, PyData.showable] at this; exact this)
      fun t ht => Nat.le_trans (listText_mem_le ht) sm).within rd (by rw [D.py, PyData.depth])
    have dp : PyData.depthAll (D.pys ds) + 1 ≤ 100 := by
      have := sh.deep
      rw [D.py, PyData.depth] at this; exact this
    refine call_repr_slot (by omega) ⟨o, ho, hc⟩ PySem.F.slot_list_repr.toG ?_
    have e : (D.lst ds).py.shown = listText (PyData.shownAll (D.pys ds)) := by
      rw [D.py, PyData.shown]
    cases its with
    | cons x q =>
      exact call_list_reprK ho hc hd W.out (by simpa using W.all.length_eq)
        (fun i y e => W.all.item i y (by simpa using e)) (A := X.A.in1) hG (fun b _ => Clear.nil b)
        (by show X.A.units + 1 + _ < cLine; omega) (fun _ _ e => e)
        (fun h' t tk hk => ⟨_, _, rfl, e ▸ fin h' t tk hk⟩) sm
    | nil =>
      cases rv
      cases is
      have := fin s.heap s.toks (s.toks + 1) fun _ _ e => e
      exact call_list_repr_empty ⟨o, ho, hc⟩ ho hd ⟨_, _, rfl, this⟩
  | @tup a ys ds h is hcl =>
    cases ru
    obtain ⟨as, rd, _⟩ := Is.reads I sb (.tup h is hcl) sh.plain rfl
    obtain ⟨its, rv, ⟨o, ho, hc, n, hd⟩, _⟩ := I.tuple (sameT sb h)
    have sm : (tupleText (PyData.shownAll (D.pys ds))).length ≤ sizeLine := by
      have := sh.small
      rw [D.py, PyData.shown] at this; exact this
    obtain ⟨bs, W⟩ := (IsAll.told I sb is (by simpa [D.plain] using sh.plain) rv
      (by have := sh.able; rw [D.py, PyData.showable] at this; exact this)
      fun t ht => Nat.le_trans (tupleText_mem_le ht) sm).within rd (by rw [D.py, PyData.depth])
    have dp : PyData.depthAll (D.pys ds) + 1 ≤ 100 := by
      have := sh.deep
      rw [D.py, PyData.depth] at this; exact this
    have e : (D.tup ds).py.shown = tupleText (PyData.shownAll (D.pys ds)) := by
      rw [D.py, PyData.shown]
    refine call_repr_slot (by omega) ⟨o, ho, hc⟩ PySem.F.slot_tuple_repr ?_
    exact call_tuple_reprK ho hc hd W.out W.all (A := X.A.in1) hG (fun b _ => Clear.nil b)
      (by show X.A.units + 1 + _ < cLine; omega) (fun _ _ e => e)
      (fun h' t tk hk => ⟨_, _, rfl, e ▸ fin h' t tk hk⟩) sm
  | @dic a kis h =>
    cases ru
    obtain ⟨as, rd, nl⟩ := Is.reads I sb (.dic h) sh.plain rfl
    exact repr_of_reads' rd sh.able (fun _ => nl rfl) hG
      (by have := sh.deep; omega) (fun _ _ e => e)
      (fun h' t tk hk => fin h' t tk hk) sh.small
  | ins h is => have := sh.plain; simp [D.plain] at this
  | scr h => have := sh.plain; simp [D.plain] at this
  | dct h _ is => have := sh.plain; simp [D.plain] at this
def D.isInt : D → Bool
  | .int _ => true
  | .bl _ => true
  | _ => false
def D.isBool : D → Bool
  | .bl _ => true
  | _ => false
def D.isTup : D → Bool
  | .tup _ => true
  | _ => false
def D.kind : D → String
  | .non => "NoneType"
  | .bl _ => "bool"
  | .int _ => "int"
  | .str _ => "str"
  | .lst _ => "list"
  | .tup _ => "tuple"
  | .dic _ => "dict"
  | .ins _ _ _ => "object"
  | .scr _ => "list"
  | .dct _ _ => "dict"
def D.own : D → Bool
  | .ins _ _ _ => true
  | .dct _ _ => true
  | _ => false
section
variable {K : PySem.W.Frag} {l : Option Addr} {ρ : Ro} {m : Nat}
variable {Φ : Nat → D → Prop} {Θ : Nat → Bool → Prop}
variable {ta te tl : TE} {t u : TT} {tA tK : TA}
variable {Z : Addr → Prop} {B H : Hp} {σ : L2.St}
theorem Is.ty {v : V} {d : D} (sb : Same B H) (h : Is K B v d)
    (n : d.own = false) : TyX K H v (.type d.kind) := by
  cases h with
  | non => exact .base .non
  | bl b => exact .base (.bl b)
  | int i => exact .base (.int i)
  | str x => exact .base (.str x)
  | lst h _ => exact .base (.lst (sb _ _ h))
  | tup h _ =>
    rcases h with (h | ⟨o, h⟩) | ⟨o, its, n, hk, hc, _⟩
    · exact .base (.tup (sb _ _ h))
    · exact .fTuple (sb _ _ h)
    · exact .kTuple hk hc
  | dic h =>
    rcases h with h | ⟨o, h⟩
    · exact .base (.dK (sb _ _ h))
    · exact .fDict (sb _ _ h)
  | ins _ _ => cases n
  | dct _ _ _ => cases n
  | scr h =>
    rcases h with ⟨o, h⟩ | ⟨o, its, n, hk, hc, _⟩
    · exact .base (.frz (sb _ _ h))
    · exact .kList hk hc
theorem e_isi {T : String} {g : D → Bool}
    (hg : ∀ d, d.own = false → kitB d.kind T = some (g d))
    (h : EvC K l ta ρ m fun m1 d => d.own = false ∧ Φ m1 (.bl (g d))) :
    EvC K l (tCB (rIsi K) (tCons ta (tCons (tC (.ty T)) tNil))) ρ m Φ := by
  intro Z B H σ Q ok k
  refine h Z B H σ _ ok fun v d m1 B1 H1 o1 f1 i1 g1 => ?_
  exact ⟨v, .ty T, _, _, g d, rfl, .ty T, i1.ty o1.sub g1.1,
    kit_ty (hg d g1.1), k _ _ m1 B1 H1 o1 f1 (.bl _) g1.2⟩
theorem kit_int (d : D) (h : d.own = false) :
    kitB d.kind "int" = some d.isInt := by
  cases d <;> first | (cases h; done) | (simp only [D.kind, D.isInt]; decide +kernel)
theorem kit_bool (d : D) (h : d.own = false) :
    kitB d.kind "bool" = some d.isBool := by
  cases d <;> first | (cases h; done) | (simp only [D.kind, D.isBool]; decide +kernel)
theorem kit_tup (d : D) (h : d.own = false) :
    kitB d.kind "tuple" = some d.isTup := by
  cases d <;> first | (cases h; done) | (simp only [D.kind, D.isTup]; decide +kernel)
abbrev rLenQ (K : PySem.W.Frag) : List V → Hp → VK → Prop := fun xs H Q =>
  ∃ p ys, xs = [.ref p] ∧ (SqL K H p ys ∨ SqT K H p ys) ∧
    Q (.int ys.length) H
theorem isAll1 {vs : List V} {d : D} (h : IsAll K B vs [d]) :
    ∃ v, vs = [v] ∧ Is K B v d := by
  cases h with
  | cons h r => cases r; exact ⟨_, rfl, h⟩
theorem isAll2 {vs : List V} {d e : D} (h : IsAll K B vs [d, e]) :
    ∃ v w, vs = [v, w] ∧ Is K B v d ∧ Is K B w e := by
  cases h with
  | cons h r =>
    cases r with
    | cons h2 r => cases r; exact ⟨_, _, rfl, h, h2⟩
theorem v_repr {d : D} (s : Shows d) (q : Φ m (.str d.py.shown)) :
    VvC K l ρ (rRepr K) [d] m Φ := by
  intro Z B H σ vs Q ok is k
  obtain ⟨v, rfl, h⟩ := isAll1 is
  exact ⟨v, d, B, rfl, ok.sub, h, s, k _ _ m B H ok Fr.refl (.str _) q⟩
theorem v_lenT {ds : List D} (q : Φ m (.int ds.length)) :
    VvC K l ρ (fun xs H Q => ∃ p ys, xs = [.ref p] ∧
      (SqL K H p ys ∨ SqT K H p ys) ∧ Q (.int ys.length) H)
      [.tup ds] m Φ := by
  intro Z B H σ vs Q ok is k
  obtain ⟨v, rfl, h⟩ := isAll1 is
  cases h with
  | tup h r =>
    refine ⟨_, _, rfl, .inr (sameT ok.sub h), ?_⟩
    rw [r.length]
    exact k _ _ m B H ok Fr.refl (.int _) q
theorem v_lenL {ds : List D} (q : Φ m (.int ds.length)) :
    VvC K l ρ (fun xs H Q => ∃ p ys, xs = [.ref p] ∧
      (SqL K H p ys ∨ SqT K H p ys) ∧ Q (.int ys.length) H)
      [.lst ds] m Φ := by
  intro Z B H σ vs Q ok is k
  obtain ⟨v, rfl, h⟩ := isAll1 is
  cases h with
  | lst h r =>
    refine ⟨_, _, rfl, .inl (SqL.of (ok.sub _ _ h)), ?_⟩
    rw [r.length]
    exact k _ _ m B H ok Fr.refl (.int _) q
theorem v_lenS {ns : List Int} (q : Φ m (.int ns.length)) :
    VvC K l ρ (fun xs H Q => ∃ p ys, xs = [.ref p] ∧
      (SqL K H p ys ∨ SqT K H p ys) ∧ Q (.int ys.length) H)
      [.scr ns] m Φ := by
  intro Z B H σ vs Q ok is k
  obtain ⟨v, rfl, h⟩ := isAll1 is
  cases h with
  | scr h =>
    refine ⟨_, _, rfl, .inl (h.seq ok.sub), ?_⟩
    rw [List.length_map]
    exact k _ _ m B H ok Fr.refl (.int _) q
theorem v_listT {ds : List D} (q : Φ m (.lst ds)) :
    VvC K l ρ (fun xs H Q => ∃ p ys, xs = [.ref p] ∧
      (SqL K H p ys ∨ SqT K H p ys) ∧
      ∀ l, H l = none → Q (.ref l) (upd H l (.lst ys))) [.tup ds] m Φ := by
  intro Z B H σ vs Q ok is k
  obtain ⟨v, rfl, h⟩ := isAll1 is
  cases h with
  | tup h r =>
    refine ⟨_, _, rfl, .inr (sameT ok.sub h), fun p hp => ?_⟩
    obtain ⟨o2, f2⟩ := ok.new (o := .lst _) hp
    exact k _ _ m _ _ o2 f2 (.lst upd_same (r.mono f2.sub)) q
theorem v_tupL {ds : List D} (q : Φ m (.tup ds)) :
    VvC K l ρ (rTupC K) [.lst ds] m Φ := by
  intro Z B H σ vs Q ok is k
  obtain ⟨v, rfl, h⟩ := isAll1 is
  cases h with
  | lst h r =>
    refine ⟨_, _, rfl, .inl ⟨SqL.of (ok.sub _ _ h), fun p ob hp hd _ => ?_⟩⟩
    obtain ⟨o2, f2⟩ := ok.new (o := .frz ob (.tup _)) hp
    exact k _ _ m _ _ o2 f2 (.newT upd_same hd (r.mono f2.sub)) q
theorem bls_of : ∀ {vs : List V} {bs : List Bool},
    IsAll K B vs (bs.map D.bl) → vs = bs.map V.bl
  | _, [], h => by cases h; rfl
  | _, b :: bs, h => by
    cases h with
    | cons h r => cases h; rw [bls_of r]; rfl
theorem v_all {bs : List Bool} (q : Φ m (.bl (bs.all id))) :
    VvC K l ρ (rAll K) [.lst (bs.map D.bl)] m Φ := by
  intro Z B H σ vs Q ok is k
  obtain ⟨v, rfl, h⟩ := isAll1 is
  cases h with
  | lst h r =>
    have e := bls_of r
    subst e
    exact ⟨_, bs, rfl, SqL.of (ok.sub _ _ h),
      k _ _ m B H ok Fr.refl (.bl _) q⟩
theorem v_abs {i : Int} (q : Φ m (.int (if i < 0 then -i else i))) :
    VvC K l ρ (fun xs H Q => ∃ i, xs = [.int i] ∧
      Q (.int (if i < 0 then -i else i)) H) [.int i] m Φ := by
  intro Z B H σ vs Q ok is k
  obtain ⟨v, rfl, h⟩ := isAll1 is
  cases h
  exact ⟨i, rfl, k _ _ m B H ok Fr.refl (.int _) q⟩
theorem v_intB {b : Bool} (q : Φ m (.int (if b then 1 else 0))) :
    VvC K l ρ (fun xs H Q => (∃ i, xs = [.int i] ∧ Q (.int i) H) ∨
      ∃ k, xs = [.bl k] ∧ Q (.int (if k then 1 else 0)) H) [.bl b] m Φ := by
  intro Z B H σ vs Q ok is k
  obtain ⟨v, rfl, h⟩ := isAll1 is
  cases h
  exact .inr ⟨b, rfl, k _ _ m B H ok Fr.refl (.int _) q⟩
theorem v_max2 {i j : Int} (q : Φ m (.int (if j > i then j else i))) :
    VvC K l ρ (fun xs H Q => ∃ i j, xs = [.int i, .int j] ∧
      Q (.int (if j > i then j else i)) H) [.int i, .int j] m Φ := by
  intro Z B H σ vs Q ok is k
  obtain ⟨v, w, rfl, h, h2⟩ := isAll2 is
  cases h
  cases h2
  exact ⟨i, j, rfl, k _ _ m B H ok Fr.refl (.int _) q⟩
theorem v_min2 {i j : Int} (q : Φ m (.int (if j < i then j else i))) :
    VvC K l ρ (fun xs H Q => ∃ i j, xs = [.int i, .int j] ∧
      Q (.int (if j < i then j else i)) H) [.int i, .int j] m Φ := by
  intro Z B H σ vs Q ok is k
  obtain ⟨v, w, rfl, h, h2⟩ := isAll2 is
  cases h
  cases h2
  exact ⟨i, j, rfl, k _ _ m B H ok Fr.refl (.int _) q⟩
theorem atI_get {α : Type} {xs : List α} {i : Int} {x : α}
    (h0 : 0 ≤ i) (h : xs[i.toNat]? = some x) : atI xs i = some x := by
  have hl : i.toNat < xs.length := (List.getElem?_eq_some_iff.mp h).1
  unfold atI ixN
  rw [if_pos h0, if_pos (by omega)]
  exact h
theorem v_ixT {ds : List D} {i : Int} {d : D} (h0 : 0 ≤ i)
    (hd : ds[i.toNat]? = some d) (q : Φ m d) :
    VvC K l ρ (fun vs H Q => ∃ x y, vs = [x, y] ∧ rIxT K x y H Q)
      [.tup ds, .int i] m Φ := by
  intro Z B H σ vs Q ok is k
  obtain ⟨v, w, rfl, h, h2⟩ := isAll2 is
  cases h2
  cases h with
  | tup h r =>
    obtain ⟨x, e, z⟩ := r.got hd
    exact ⟨_, _, rfl, _, _, i, x, rfl, rfl, sameT ok.sub h, atI_get h0 e,
      k _ _ m B H ok Fr.refl z q⟩
theorem v_ixL {ds : List D} {i : Int} {d : D} (h0 : 0 ≤ i)
    (hd : ds[i.toNat]? = some d) (q : Φ m d) :
    VvC K l ρ (fun vs H Q => ∃ x y, vs = [x, y] ∧ rIxL K x y H Q)
      [.lst ds, .int i] m Φ := by
  intro Z B H σ vs Q ok is k
  obtain ⟨v, w, rfl, h, h2⟩ := isAll2 is
  cases h2
  cases h with
  | lst h r =>
    obtain ⟨x, e, z⟩ := r.got hd
    exact ⟨_, _, rfl, _, _, i, x, rfl, rfl, SqL.of (ok.sub _ _ h),
      atI_get h0 e, k _ _ m B H ok Fr.refl z q⟩
theorem v_ixS {ns : List Int} {i n : Int} (h0 : 0 ≤ i)
    (hd : ns[i.toNat]? = some n) (q : Φ m (.int n)) :
    VvC K l ρ (fun vs H Q => ∃ x y, vs = [x, y] ∧ rIxL K x y H Q)
      [.scr ns, .int i] m Φ := by
  intro Z B H σ vs Q ok is k
  obtain ⟨v, w, rfl, h, h2⟩ := isAll2 is
  cases h2
  cases h with
  | scr h =>
    refine ⟨_, _, rfl, _, _, i, .int n, rfl, rfl, h.seq ok.sub,
      atI_get h0 ?_, k _ _ m B H ok Fr.refl (.int n) q⟩
    rw [List.getElem?_map, hd]
    rfl
theorem v_catT {xs ys : List D} (hl : xs.length + ys.length ≤ 100000)
    (q : Φ m (.tup (xs ++ ys))) :
    VvC K l ρ (fun vs H Q => ∃ x y, vs = [x, y] ∧ rCatC K x y H Q)
      [.tup xs, .tup ys] m Φ := by
  intro Z B H σ vs Q ok is k
  obtain ⟨v, w, rfl, h, h2⟩ := isAll2 is
  cases h with
  | @tup a us _ h r c1 =>
    cases h2 with
    | @tup b ws _ h2 r2 c2 =>
      refine ⟨_, _, rfl, _, _, us, ws, rfl, rfl, sameT ok.sub h,
        sameT ok.sub h2, ?_, fun e => ?_, fun n e => ?_,
        fun n1 n2 p ob hp hd _ => ?_⟩
      · rw [r.length, r2.length]
        exact Nat.le_trans hl (by decide)
      · subst e
        cases r
        exact k _ _ m B H ok Fr.refl (.tup h2 r2 c2) q
      · subst e
        cases r2
        rw [List.append_nil] at q
        exact k _ _ m B H ok Fr.refl (.tup h r c1) q
      · obtain ⟨o2, f2⟩ := ok.new (o := .frz ob (.tup (us ++ ws))) hp
        exact k _ _ m _ _ o2 f2 (.newT upd_same hd
          ((r.mono f2.sub).append (r2.mono f2.sub))) q
theorem v_catL {xs ys : List D} (hl : xs.length + ys.length ≤ 100000)
    (q : Φ m (.lst (xs ++ ys))) :
    VvC K l ρ (fun vs H Q => ∃ x y, vs = [x, y] ∧ rCat x y H Q)
      [.lst xs, .lst ys] m Φ := by
  intro Z B H σ vs Q ok is k
  obtain ⟨v, w, rfl, h, h2⟩ := isAll2 is
  cases h with
  | @lst a us _ h r =>
    cases h2 with
    | @lst b ws _ h2 r2 =>
      refine ⟨_, _, rfl, _, _, us, ws, rfl, rfl, ok.sub _ _ h,
        ok.sub _ _ h2, ?_, fun p hp => ?_⟩
      · rw [r.length, r2.length]
        exact Nat.le_trans hl (by decide)
      · obtain ⟨o2, f2⟩ := ok.new (o := .lst (us ++ ws)) hp
        exact k _ _ m _ _ o2 f2 (.lst upd_same
          ((r.mono f2.sub).append (r2.mono f2.sub))) q
def cutD (xs : List D) (lo hi : Option Int) : List D :=
  (xs.drop (HT.sIx xs.length 0 lo)).take
    (HT.sIx xs.length xs.length hi - HT.sIx xs.length 0 lo)
theorem IsAll.cut {vs : List V} {ds : List D} (h : IsAll K B vs ds)
    (lo hi : Option Int) : IsAll K B (cutV vs lo hi) (cutD ds lo hi) := by
  unfold cutV cutD
  rw [h.length]
  exact (h.drop _).take _
/-- a part of a slice -/
def OvC (K : PySem.W.Frag) (l : Option Addr) (to : TO) (ρ : Ro) (m : Nat)
    (Φ : Nat → Option Int → Prop) : Prop :=
  ∀ Z B H σ (Q : Option Int → Hp → Prop), Ok K l Z m B H σ ρ →
    (∀ o m' B2 H2, Ok K l Z m' B2 H2 σ ρ → Fr Z B H B2 H2 →
      Φ m' o → Q o H2) → to σ H Q
theorem o_none {Φ : Nat → Option Int → Prop} (q : Φ m none) :
    OvC K l tNoPart ρ m Φ :=
  fun Z B H σ Q ok k => k none m B H ok Fr.refl q
theorem o_some {Φ : Nat → Option Int → Prop}
    (h : EvC K l te ρ m fun m1 d => ∃ i, d = .int i ∧ Φ m1 (some i)) :
    OvC K l (tPart te) ρ m Φ := by
  intro Z B H σ Q ok k
  refine h Z B H σ _ ok fun v d m1 B1 H1 o1 f1 i1 g1 => ?_
  obtain ⟨i, rfl, g⟩ := g1
  cases i1
  exact ⟨i, rfl, k _ m1 B1 H1 o1 f1 g⟩
theorem e_slT {tl th : TO}
    (h : EvC K l te ρ m fun m1 x => OvC K l tl ρ m1 fun m2 lo =>
      OvC K l th ρ m2 fun m3 hi => ∃ ds, x = .tup ds ∧
        Φ m3 (.tup (cutD ds lo hi))) :
    EvC K l (tSl (rSlC K) te tl th) ρ m Φ := by
  intro Z B H σ Q ok k
  refine h Z B H σ _ ok fun v x m1 B1 H1 o1 f1 i1 g1 => ?_
  refine g1 Z B1 H1 σ _ o1 fun lo m2 B2 H2 o2 f2 g2 => ?_
  refine g2 Z B2 H2 σ _ o2 fun hi m3 B3 H3 o3 f3 g3 => ?_
  obtain ⟨ds, rfl, q⟩ := g3
  have i3 := i1.mono (f2.trans f3).sub
  have f13 := f1.trans (f2.trans f3)
  cases i3 with
  | @tup a us _ h r hcl =>
    refine ⟨a, us, rfl, sameT o3.sub h, fun e => ?_, fun _ p ob hp hd _ => ?_⟩
    · have w : cutD ds lo hi = ds := by
        rw [r.length] at e
        unfold cutD
        rw [e.1, e.2, List.drop_zero, Nat.sub_zero, List.take_length]
      rw [w] at q
      exact k _ _ m3 B3 H3 o3 f13 (.tup h r hcl) q
    · obtain ⟨o4, f4⟩ := o3.new (o := .frz ob (.tup (cutV us lo hi))) hp
      exact k _ _ m3 _ _ o4 (f13.trans f4) (.newT upd_same hd
        ((r.mono f4.sub).cut lo hi)) q
/-- x in t, flat things -/
def D.flat : D → Bool
  | .non => true
  | .bl _ => true
  | .int _ => true
  | .str _ => true
  | _ => false
def D.v : D → V
  | .bl b => .bl b
  | .int i => .int i
  | .str x => .str x
  | _ => .non
theorem Is.flat {v : V} {d : D} (h : Is K B v d) (f : d.flat = true) :
    v = d.v ∧ flatV v = true := by
  cases h <;> first | exact ⟨rfl, rfl⟩ | (simp [D.flat] at f)
theorem IsAll.flat : ∀ {vs : List V} {ds : List D}, IsAll K B vs ds →
    ds.all D.flat = true → vs = ds.map D.v ∧ vs.all flatV = true
  | _, _, .nil, _ => ⟨rfl, rfl⟩
  | _, _, .cons h r, f => by
    rw [List.all_cons, Bool.and_eq_true] at f
    obtain ⟨e1, q1⟩ := h.flat f.1
    obtain ⟨e2, q2⟩ := IsAll.flat r f.2
    refine ⟨?_, ?_⟩
    · rw [List.map_cons, ← e1, ← e2]
    · rw [List.all_cons, q1, q2]
      rfl
theorem v_inT {neg : Bool} {x : D} {ds : List D} (f : x.flat = true)
    (fs : ds.all D.flat = true)
    (q : Φ m (.bl (if neg then !inV x.v (ds.map D.v)
      else inV x.v (ds.map D.v)))) :
    VvC K l ρ (fun vs H Q => ∃ x y, vs = [x, y] ∧ rIn K neg x y H Q)
      [x, .tup ds] m Φ := by
  intro Z B H σ vs Q ok is k
  obtain ⟨v, w, rfl, h, h2⟩ := isAll2 is
  obtain ⟨rfl, fv⟩ := h.flat f
  cases h2 with
  | @tup a us _ h2 r =>
    obtain ⟨rfl, fu⟩ := r.flat fs
    exact ⟨_, _, rfl, _, _, rfl, .inr (sameT ok.sub h2), fv, fu,
      k _ _ m B H ok Fr.refl (.bl _) q⟩
theorem e_dic0 (q : Φ m (.dic [])) : EvC K l tDNewK ρ m Φ := by
  intro Z B H σ Q ok k p hp
  obtain ⟨o2, f2⟩ := ok.new (o := .dK []) hp
  exact k _ _ m _ _ o2 f2 (.dic (.inl upd_same)) q
/-- {i: j} of whole numbers -/
theorem e_dic1 {i j : Int} (q : Φ m (.dic [(i, j)])) :
    EvC K l (tDisp [(tC (.int i), tC (.int j))]) ρ m Φ := by
  intro Z B H σ Q ok k p hp
  refine ⟨upd_same, [(Sum.inl i, .int j)], rfl, by simp, ?_⟩
  rw [upd_upd]
  obtain ⟨o2, f2⟩ := ok.new (o := .dK [(Sum.inl i, .int j)]) hp
  exact k _ _ m _ _ o2 f2 (.dic (kis := [(i, j)]) (.inl upd_same)) q
end
section
variable {X : Cx} {CX : CXT} {k : Nat} {f : Addr} {fd : FuncData}
variable {ps ks : List Str} {sp : Sp} {E : XK} {x : Str} {p pos : Pos}
variable {kws : List Keyword} {tk : TA}
variable {g : List Value → List Value → List Value}
variable {gV : List V → List V → List V}
/-- ** of greater numbers -/
def CPowW (i j : Int) : Prop :=
  0 ≤ j ∧ (Builtin.Int.intBits i : Int) * j ≤ 2 ^ 27
theorem op_powW : OpR X (binaryOp .Pow)
    (rI CPowW fun i j => .int (i ^ j.toNat)) :=
  opI fun _ _ _ _ _ _ _ hc q => pow_int hc.1 hc.2 q
end
end Wt

namespace Wt
open PySem PySem.Spec PyProof.Rows L2
/-- a def that reads data and tells some data -/
def SpR (K : PySem.W.Frag) (pre : List D → Prop)
    (Ψ : List D → D → Prop) : Sp :=
  fun vs H Q _ => ∃ B ds, Same B H ∧ IsAll K B vs ds ∧ pre ds ∧
    ∀ v d B2 H2, Same B B2 → Same H H2 → Same B2 H2 →
      (∀ a, H a ≠ none → B a = none → B2 a = none) →
      Ψ ds d → Is K B2 v d → Q v H2
section
variable {K : PySem.W.Frag} {l : Option Addr} {ρ : Ro} {m : Nat}
variable {Φ : Nat → D → Prop} {Θ : Nat → Bool → Prop}
variable {Nx : Nat → Ro → Prop} {Rt : Nat → D → Prop} {ts tb : TS}
variable {ta te tl : TE} {t u : TT} {tA tK : TA}
variable {Z : Addr → Prop} {B H : Hp} {σ : L2.St}
theorem e_callR {pre : List D → Prop} {Ψ : List D → D → Prop} {E : XK}
    (h : AvC K l tA ρ m fun m1 ds => pre ds ∧ ∀ d, Ψ ds d → Φ m1 d) :
    EvC K l (tCall (SpR K pre Ψ) [] E tA) ρ m Φ := by
  intro Z B H σ Q ok k
  refine h Z B H σ _ ok fun vs ds m1 B1 H1 o1 f1 i1 g1 => ?_
  rw [List.append_nil]
  refine ⟨B1, ds, o1.sub, i1, g1.1, fun v d B2 H2 s1 s2 s3 fr p iv => ?_⟩
  obtain ⟨o2, f2⟩ := o1.step (m' := m1) s1 s3
    (fun a e => by
      obtain ⟨g, s, c, q, r⟩ := (o1.hand a e).1
      exact ⟨g, s, c, s2 _ _ q, r⟩)
    (fun a o _ e => s2 a o e) fr
  exact k v _ m1 B2 H2 o2 (f1.trans f2) iv (g1.2 d p)
theorem body_R {pre : List D → Prop} {Ψ : List D → D → Prop} {vs : List V}
    {Q : VK} {E : XK} {N : List Str} (h : SpR K pre Ψ vs H Q E)
    (hb : ∀ ds, pre ds → vs.length = ds.length →
      SvC K none ts (datR ds ++ List.replicate (N.length - ds.length) none)
        0 (fun _ _ => Ψ ds .non) fun _ d => Ψ ds d) :
    ts { nx := fun _ H' => Q .non H', rt := Q } (L2.start N vs) H := by
  obtain ⟨B, ds, sb, is, hp, k⟩ := h
  have ex : ∀ d, Ψ ds d → SpP K (fun x => x = ds) (fun _ => d) vs H Q E := by
    intro d hd
    exact ⟨B, ds, sb, is, rfl, fun v B2 H2 s1 s2 s3 fr iv =>
      k v d B2 H2 s1 s2 s3 fr hd iv⟩
  have hl := is.length
  have ok : Ok K none (fun a => H a ≠ none ∧ B a = none) 0 B H
      (L2.start N vs) (datR ds ++ List.replicate (N.length - ds.length) none) := by
    refine ⟨⟨sb, fun a e => (nomatch e), fun z h => ⟨h.1, h.2, nofun⟩⟩,
      ?_, fun i s e => ?_, fun i j ds1 es a n po p2 e1 => ?_⟩
    · unfold L2.start datR
      simp [hl]
    · rcases Nat.lt_or_ge i ds.length with hi | hi
      · rw [List.getElem?_append_left (by unfold datR; simpa using hi)] at e
        obtain ⟨v, e2, q⟩ := isAll_get (l := none)
          (Z := fun a => H a ≠ none ∧ B a = none) (H := H) is e
        refine ⟨v, ?_, q⟩
        unfold L2.start
        rw [List.getElem?_append_left (by simpa [hl] using hi)]
        exact e2
      · rw [List.getElem?_append_right (by unfold datR; simpa using hi)] at e
        rw [List.getElem?_replicate] at e
        split at e <;> cases e
    · rcases Nat.lt_or_ge i ds.length with hi | hi
      · rw [List.getElem?_append_left (by unfold datR; simpa using hi)] at e1
        unfold datR at e1
        rw [List.getElem?_map] at e1
        cases q : ds[i]? with
        | none => rw [q] at e1; cases e1
        | some d => rw [q] at e1; cases e1; cases po
      · rw [List.getElem?_append_right (by unfold datR; simpa using hi)] at e1
        rw [List.getElem?_replicate] at e1
        split at e1 <;> cases e1
  have fin : ∀ v d m' B2 H2, Bs none (fun a => H a ≠ none ∧ B a = none) m' B2 H2 →
      Fr (fun a => H a ≠ none ∧ B a = none) B H B2 H2 → Is K B2 v d →
      Ψ ds d → Q v H2 := by
    intro v d m' B2 H2 o2 f2 i2 e
    refine k v d B2 H2 f2.sub (fun b o e => ?_) o2.sub
      (fun a h1 h2 => (o2.zs a ⟨h1, h2⟩).2.1) e i2
    cases q : B b with
    | none => rw [f2.kept b ⟨by rw [e]; exact nofun, q⟩]; exact e
    | some x =>
      rw [sb b x q] at e
      cases e
      exact o2.sub b _ (f2.sub b _ q)
  exact hb ds hp hl _ B H _ _ ok
    (fun σ' ρ' m' B2 H2 o2 f2 g2 => fin .non .non m' B2 H2 o2.toBs f2 .non g2)
    fin
theorem s_aug {i : Nat} {r : R2} {d : D}
    (hi : ρ[i]? = some (some (.dat d)))
    (h : EvC K l te ρ m fun m1 y => VvC K l ρ
      (fun vs H Q => ∃ x y, vs = [x, y] ∧ r x y H Q) [d, y] m1
      fun m2 z => Nx m2 (ρ.set i (some (.dat z)))) :
    SvC K l (tAug i te r) ρ m Nx Rt := by
  intro Z B H σ W ok k _
  obtain ⟨v, e, z⟩ := ok.sl i _ hi
  refine ⟨v, e, h Z B H σ _ ok fun v2 y m1 B1 H1 o1 f1 i1 g1 => ?_⟩
  obtain ⟨x, y, e2, q⟩ := g1 Z B1 H1 σ [v, v2]
    (fun z H2 => W.nx (σ.set i (some z)) H2) o1
    (.cons (Is.mono f1.sub z) (.cons i1 .nil))
    fun v3 d3 m2 B2 H2 o2 f2 i2 g2 =>
      k _ _ m2 B2 H2 (o2.set i2) (f1.trans f2) g2
  cases e2
  exact q
theorem s_par {i j : Nat} (h : AvC K l tA ρ m fun m1 ds => ∃ x y,
      ds = [x, y] ∧
      Nx m1 ((ρ.set i (some (.dat x))).set j (some (.dat y)))) :
    SvC K l (tPar i j tA) ρ m Nx Rt := by
  intro Z B H σ W ok k _
  refine h Z B H σ _ ok fun vs ds m1 B1 H1 o1 f1 i1 g1 => ?_
  obtain ⟨x, y, rfl, q⟩ := g1
  obtain ⟨v, w, rfl, h1, h2⟩ := isAll2 i1
  exact ⟨v, w, rfl, k _ _ m1 B1 H1 ((o1.set h1).set h2) f1 q⟩
theorem e_hand0 {i : Nat} (hi : ρ[i]? = some (some .hand))
    (q : ∀ g : Int, 0 ≤ g → g < 10 ^ 600 → Φ m (.int g)) :
    EvC K l (tOp (rIxL K) (tVar i) (tC (.int 0))) ρ m Φ := by
  intro Z B H σ Q ok k
  obtain ⟨v, e, a, ha, rfl⟩ := ok.sl i _ hi
  obtain ⟨g, s, c, e2, a1, a2, a3, a4, a5, a6⟩ := (ok.hand a ha).1
  exact ⟨_, e, a, _, 0, _, rfl, rfl, SqL.of e2, rfl,
    k _ _ m B H ok Fr.refl (.int g) (q g a1 a2)⟩
theorem e_hand1 {i : Nat} (hi : ρ[i]? = some (some .hand))
    (q : ∀ s : Int, 0 ≤ s → s < 2 ^ 61 → Φ m (.int s)) :
    EvC K l (tOp (rIxL K) (tVar i) (tC (.int 1))) ρ m Φ := by
  intro Z B H σ Q ok k
  obtain ⟨v, e, a, ha, rfl⟩ := ok.sl i _ hi
  obtain ⟨g, s, c, e2, a1, a2, a3, a4, a5, a6⟩ := (ok.hand a ha).1
  exact ⟨_, e, a, _, 1, _, rfl, rfl, SqL.of e2, rfl,
    k _ _ m B H ok Fr.refl (.int s) (q s a3 a4)⟩
theorem e_hand2 {i : Nat} (hi : ρ[i]? = some (some .hand))
    (q : ∀ c : Int, 0 ≤ c → c ≤ m → Φ m (.int c)) :
    EvC K l (tOp (rIxL K) (tVar i) (tC (.int 2))) ρ m Φ := by
  intro Z B H σ Q ok k
  obtain ⟨v, e, a, ha, rfl⟩ := ok.sl i _ hi
  obtain ⟨g, s, c, e2, a1, a2, a3, a4, a5, a6⟩ := (ok.hand a ha).1
  exact ⟨_, e, a, _, 2, _, rfl, rfl, SqL.of e2, rfl,
    k _ _ m B H ok Fr.refl (.int c) (q c a5 a6)⟩
theorem Ok.hands {a : Addr} {n : Nat} {xs : List V}
    (h : Ok K l Z m B H σ ρ) (ha : l = some a)
    (hh : Hand (upd H a (.lst xs)) a n) :
    Ok K l Z n B (upd H a (.lst xs)) σ ρ ∧ Fr Z B H B (upd H a (.lst xs)) := by
  refine h.step (Same.refl B) (fun b x e => ?_) (fun b e => ?_)
    (fun b x n e => ?_) (fun b _ e => e)
  · have n : b ≠ a := fun z => by
      subst z; rw [(h.hand b ha).2] at e; cases e
    rw [upd_ne n]
    exact h.sub b x e
  · rw [ha] at e
    cases e
    exact hh
  · have n : b ≠ a := fun z => n (z ▸ ha)
    rw [upd_ne n]
    exact e
theorem s_hand0 {i : Nat} (hi : ρ[i]? = some (some .hand))
    (h : EvC K l te ρ m fun m1 d => ∃ g : Int, d = .int g ∧ 0 ≤ g ∧
      g < 10 ^ 600 ∧ Nx m1 ρ) :
    SvC K l (tAsg te (gSub (tVar i) (tC (.int 0)) rSetL)) ρ m Nx Rt := by
  intro Z B H σ W ok k _
  refine h Z B H σ _ ok fun v d m1 B1 H1 o1 f1 i1 g1 => ?_
  obtain ⟨g', rfl, b1, b2, q⟩ := g1
  cases i1
  obtain ⟨v, e, a, ha, rfl⟩ := o1.sl i _ hi
  obtain ⟨g, s, c, e2, a1, a2, a3, a4, a5, a6⟩ := (o1.hand a ha).1
  refine ⟨_, e, a, _, 0, 0, rfl, rfl, e2, rfl, ?_⟩
  obtain ⟨o2, f2⟩ := o1.hands (n := m1) ha
    ⟨g', s, c, upd_same, b1, b2, a3, a4, a5, a6⟩
  exact k _ _ m1 B1 _ o2 (f1.trans f2) q
theorem s_hand2 {i : Nat} (hi : ρ[i]? = some (some .hand))
    (h : EvC K l te ρ m fun m1 d => ∃ (c : Int) (n : Nat), d = .int c ∧
      0 ≤ c ∧ c ≤ n ∧ Nx n ρ) :
    SvC K l (tAsg te (gSub (tVar i) (tC (.int 2)) rSetL)) ρ m Nx Rt := by
  intro Z B H σ W ok k _
  refine h Z B H σ _ ok fun v d m1 B1 H1 o1 f1 i1 g1 => ?_
  obtain ⟨c', n, rfl, b1, b2, q⟩ := g1
  cases i1
  obtain ⟨v, e, a, ha, rfl⟩ := o1.sl i _ hi
  obtain ⟨g, s, c, e2, a1, a2, a3, a4, a5, a6⟩ := (o1.hand a ha).1
  refine ⟨_, e, a, _, 2, 2, rfl, rfl, e2, rfl, ?_⟩
  obtain ⟨o2, f2⟩ := o1.hands (n := n) ha
    ⟨g, s, c', upd_same, a1, a2, a3, a4, b1, b2⟩
  exact k _ _ n B1 _ o2 (f1.trans f2) q
/-- what _law_hand tells -/
def isHand (d : D) : Prop := ∃ g s : Int, d = .lst [.int g, .int s, .int 0] ∧
  0 ≤ g ∧ g < 10 ^ 600 ∧ 0 ≤ s ∧ s < 2 ^ 61
/-- an item of a list or a tuple -/
def D.items : D → Option (List D)
  | .lst xs => some xs
  | .tup xs => some xs
  | _ => none
theorem v_neg {i : Int} (q : Φ m (.int (-i))) :
    VvC K l ρ (fun vs H Q => ∃ x, vs = [x] ∧ rU (fun i => .int (-i)) x H Q)
      [.int i] m Φ := by
  intro Z B H σ vs Q ok is k
  obtain ⟨v, rfl, h⟩ := isAll1 is
  cases h
  exact ⟨_, rfl, i, rfl, k _ _ m B H ok Fr.refl (.int _) q⟩
def Sl.isHand : Option Sl → Bool
  | some .hand => true
  | _ => false
/-- the hand is put away -/
theorem Ok.noHand {a : Addr} {n i : Nat} (h : Ok K (some a) Z n B H σ ρ)
    (hn : ((ρ.set i none).all fun s => !Sl.isHand s) = true) :
    Ok K none Z m B H σ (ρ.set i none) := by
  have ne : ∀ (j : Nat) s, (ρ.set i none)[j]? = some (some s) →
      ρ[j]? = some (some s) ∧ s ≠ .hand := by
    intro j s e
    refine ⟨?_, fun z => ?_⟩
    · by_cases hj : i = j
      · subst hj
        obtain ⟨hi, q⟩ := List.getElem?_eq_some_iff.mp e
        rw [List.length_set] at hi
        rw [List.getElem?_set_self hi] at e
        cases e
      · rw [List.getElem?_set_ne hj] at e
        exact e
    · subst z
      have := List.all_eq_true.mp hn _ (List.mem_of_getElem? e)
      cases this
  refine ⟨⟨h.sub, fun b e => (nomatch e), fun z hz => ?_⟩, ?_, ?_, ?_⟩
  · obtain ⟨q1, q2, q3⟩ := h.zs z hz
    exact ⟨q1, q2, nofun⟩
  · rw [List.length_set]
    exact h.len
  · intro j s e
    obtain ⟨e2, nh⟩ := ne j s e
    obtain ⟨v, e3, q⟩ := h.sl j s e2
    refine ⟨v, e3, ?_⟩
    cases s with
    | dat d => exact q
    | hand => exact absurd rfl nh
    | own ds =>
      obtain ⟨b, xs, rfl, q1, q2, q3, q4, q5⟩ := q
      exact ⟨b, xs, rfl, q1, q2, q3, nofun, q5⟩
    | obj R =>
      obtain ⟨b, xs, rfl, q1, q2, q3, q4, q5⟩ := q
      exact ⟨b, xs, rfl, q1, q2, q3, nofun, q5⟩
  · intro j k ds es b n p1 p2 e1 e2
    exact h.dis j k ds es b n p1 p2 (ne j _ e1).1 (ne k _ e2).1
/-- hand = _law_hand(script, k), and what follows with it -/
theorem s_newHand {pre : List D → Prop} {E : XK} {i j c : Nat}
    {ns : List Int} {n : Int} (hj : ρ[j]? = some (some (.dat (.scr ns))))
    (hc : ρ[c]? = some (some (.dat (.int n)))) (hp : pre [.scr ns, .int n])
    (hi : i < ρ.length)
    (h : ∀ a, SvC K (some a) tb (ρ.set i (some .hand)) 0
      (fun _ ρ' => ((ρ'.set i none).all fun s => !Sl.isHand s) = true ∧
        Nx m (ρ'.set i none)) fun _ d => Rt m d) :
    SvC K none (tSeq (tAsg (tCall (SpR K pre fun _ d => isHand d) [] E
      (tCons (tVar j) (tCons (tVar c) tNil))) (gName i)) tb) ρ m Nx Rt := by
  intro Z B H σ W ok k jr
  obtain ⟨v1, e1, z1⟩ := ok.sl j _ hj
  obtain ⟨v2, e2, z2⟩ := ok.sl c _ hc
  refine ⟨v1, e1, v2, e2, ?_⟩
  cases z2
  cases z1 with
  | @scr s _ hs =>
    obtain ⟨B0, s0, hs0, hf⟩ : ∃ B0 : Hp, Same B0 B ∧
        Scr K B0 s (ns.map V.int) ∧
        ∀ b x, B0 b = some x → ∃ o u, x = .frz o u := by
      rcases hs with ⟨o, q⟩ | q
      · refine ⟨fun b => if b = s then B b else none, fun b x e => ?_,
          .inl ⟨o, (if_pos rfl).trans q⟩, fun b x e => ?_⟩
        · have e : (if b = s then B b else none) = some x := e
          by_cases w : b = s
          · rw [if_pos w] at e; exact e
          · rw [if_neg w] at e; cases e
        · have e : (if b = s then B b else none) = some x := e
          by_cases w : b = s
          · subst w
            rw [if_pos rfl, q] at e
            cases e
            exact ⟨_, _, rfl⟩
          · rw [if_neg w] at e; cases e
      · exact ⟨fun _ => none, fun b x e => (nomatch e), .inr q,
          fun b x e => (nomatch e)⟩
    have z0 : IsAll K B0 [V.ref s, .int n] [.scr ns, .int n] :=
      .cons (.scr hs0) (.cons (.int n) .nil)
    show SpR K pre (fun _ d => isHand d) ([V.ref s, .int n] ++ []) H _ E
    rw [List.append_nil]
    refine ⟨B0, _, s0.trans ok.sub, z0, hp, fun v d B2 H2 f1 f2 f3 f4 p iv => ?_⟩
    obtain ⟨g, sd, rfl, b1, b2, b3, b4⟩ := p
    cases iv with
    | @lst a xs _ ha is =>
      have ex : xs = [.int g, .int sd, .int 0] := by
        cases is with
        | cons h1 r =>
          cases r with
          | cons h2 r =>
            cases r with
            | cons h3 r => cases r; cases h1; cases h2; cases h3; rfl
      subst ex
      have fresh : H a = none := by
        cases q : H a with
        | none => rfl
        | some o =>
          exfalso
          cases w : B0 a with
          | none =>
            rw [f4 a (by rw [q]; exact nofun) w] at ha
            cases ha
          | some x =>
            obtain ⟨o', u, rfl⟩ := hf a x w
            rw [f1 a _ w] at ha
            cases ha
      have hB : B a = none := ok.same0 fresh
      have hh : Hand H2 a 0 :=
        ⟨g, sd, 0, f3 _ _ ha, b1, b2, b3, b4, by omega, by omega⟩
      have other : ∀ b, H b ≠ none → b ≠ a := fun b q w => q (w ▸ fresh)
      have ok2 : Ok K (some a) Z 0 B H2 (σ.set i (some (.ref a)))
          (ρ.set i (some .hand)) := by
        refine ⟨⟨ok.sub.trans f2, fun b e => ?_, fun z hz => ?_⟩, ?_, ?_, ?_⟩
        · cases e
          exact ⟨hh, hB⟩
        · obtain ⟨q1, q2, _⟩ := ok.zs z hz
          refine ⟨?_, q2, fun e => other z q1 (Option.some.inj e).symm⟩
          cases w : H z with
          | none => exact absurd w q1
          | some x => rw [f2 z x w]; exact nofun
        · rw [List.length_set, List.length_set]
          exact ok.len
        · intro b x e
          by_cases w : i = b
          · subst w
            rw [List.getElem?_set_self hi] at e
            cases e
            exact ⟨.ref a, List.getElem?_set_self (by rw [ok.len]; exact hi),
              a, rfl, rfl⟩
          · rw [List.getElem?_set_ne w] at e ⊢
            obtain ⟨v, e3, q⟩ := ok.sl b x e
            refine ⟨v, e3, ?_⟩
            cases x with
            | dat d => exact q
            | hand => obtain ⟨_, z, _⟩ := q; cases z
            | own ds =>
              obtain ⟨p, xs, rfl, q1, q2, q3, q4, q5⟩ := q
              refine ⟨p, xs, rfl, f2 _ _ q1, q2, q3, fun z => ?_, q5⟩
              exact other p (by rw [q1]; exact nofun) (Option.some.inj z).symm
            | obj R =>
              obtain ⟨p, xs, rfl, q1, q2, q3, q4, q5⟩ := q
              refine ⟨p, xs, rfl, f2 _ _ q1, q2, q3, fun z => ?_, q5⟩
              exact other p (by rw [q1]; exact nofun) (Option.some.inj z).symm
        · intro b b' ds es p w p1 p2 e3 e4
          have n1 : i ≠ b := fun z => by
            subst z; rw [List.getElem?_set_self hi] at e3; cases e3; cases p1
          have n2 : i ≠ b' := fun z => by
            subst z; rw [List.getElem?_set_self hi] at e4; cases e4; cases p2
          rw [List.getElem?_set_ne n1] at e3 ⊢
          rw [List.getElem?_set_ne n2] at e4 ⊢
          exact ok.dis b b' ds es p w p1 p2 e3 e4
      have f0 : Fr Z B H B H2 := ⟨Same.refl B, fun z hz => by
        cases w : H z with
        | none => exact absurd w (ok.zs z hz).1
        | some x => exact f2 z x w⟩
      refine h a Z B H2 _ W ok2 (fun σ3 ρ3 m3 B3 H3 o3 f3 g3 => ?_)
        fun v d m3 B3 H3 o3 f3 i3 g3 => ?_
      · exact k σ3 _ m B3 H3 (o3.noHand g3.1) (f0.trans f3) g3.2
      · refine jr v d m B3 H3 ⟨o3.sub, fun b e => (nomatch e), fun z hz => ?_⟩
          (f0.trans f3) i3 g3
        obtain ⟨q1, q2, _⟩ := o3.zs z hz
        exact ⟨q1, q2, nofun⟩
end
/-- the law's promise where the law's call begins -/
theorem law_start {K : PySem.W.Frag} {H : Hp} {a : Addr} {ns : List Int}
    {E : XK} (hO : Only H) (hS : SqL K H a (ns.map V.int)) :
    SpP K (fun ds => ∃ ns, ds = [.scr ns]) (fun _ => .bl true) [.ref a] H
      (fun v _ => v = .bl true) E := by
  have hs : Scr K H a (ns.map V.int) := by
    rcases hS with (h | h) | h
    · rcases hO a with z | ⟨o, xs, z⟩
      · rw [z] at h; cases h
      · rw [z] at h; cases h
    · exact .inl h
    · exact .inr h
  refine ⟨H, [.scr ns], Same.refl H, .cons (.scr hs) .nil, ⟨ns, rfl⟩, ?_⟩
  intro v B2 H2 _ _ _ _ iv
  cases iv
  rfl
end Wt

namespace Wt
open PySem PySem.Spec PyProof.Rows L2
theorem pys_map (xs : List D) : D.pys xs = xs.map D.py := by
  induction xs with
  | nil => rfl
  | cons x r ih => rw [D.pys, ih]; rfl
theorem plains_all (xs : List D) : D.plains xs = xs.all D.plain := by
  induction xs with
  | nil => rfl
  | cons x r ih => rw [D.plains, ih]; rfl
theorem showableAll_all (xs : List PyData) :
    PyData.showableAll xs = xs.all PyData.showable := by
  induction xs with
  | nil => rfl
  | cons x r ih => rw [PyData.showableAll, ih]; rfl
theorem leavesShortAll_all (b : Nat) (xs : List PyData) :
    PyData.leavesShortAll b xs = xs.all (PyData.leavesShort b) := by
  induction xs with
  | nil => rfl
  | cons x r ih => rw [PyData.leavesShortAll, ih]; rfl
theorem depthAll_le {k : Nat} : ∀ (xs : List PyData),
    (∀ x ∈ xs, x.depth ≤ k) → PyData.depthAll xs ≤ k
  | [], _ => by simp [PyData.depthAll]
  | x :: r, h => by
    have h1 := h x List.mem_cons_self
    have h2 := depthAll_le r fun y hy => h y (List.mem_cons_of_mem _ hy)
    simp only [PyData.depthAll]
    omega
theorem weightAll_le {k : Nat} : ∀ (xs : List PyData),
    (∀ x ∈ xs, x.weight ≤ k) → PyData.weightAll xs ≤ (k + 1) * xs.length
  | [], _ => by simp [PyData.weightAll]
  | x :: r, h => by
    have h1 := h x List.mem_cons_self
    have h2 := weightAll_le r fun y hy => h y (List.mem_cons_of_mem _ hy)
    simp only [PyData.weightAll, List.length_cons]
    rw [Nat.mul_add, Nat.mul_one]
    omega
/-- a part that can be shown, of at most so deep and so much -/
structure Itm (k w : Nat) (d : D) : Prop where
  plain : d.plain = true
  able : d.py.showable = true
  deep : d.py.depth ≤ k
  short : d.py.leavesShort 60 = true
  wt : d.py.weight ≤ w
def itmB (k w : Nat) (d : D) : Bool :=
  d.plain && d.py.showable && decide (d.py.depth ≤ k) &&
    d.py.leavesShort 60 && decide (d.py.weight ≤ w)
theorem Itm.of {k w : Nat} {d : D} (h : itmB k w d = true) : Itm k w d := by
  unfold itmB at h
  simp only [Bool.and_eq_true, decide_eq_true_eq] at h
  exact ⟨h.1.1.1.1, h.1.1.1.2, h.1.1.2, h.1.2, h.2⟩
theorem Itm.mono {k w k' w' : Nat} {d : D} (h : Itm k w d) (hk : k ≤ k')
    (hw : w ≤ w') : Itm k' w' d :=
  ⟨h.plain, h.able, Nat.le_trans h.deep hk, h.short, Nat.le_trans h.wt hw⟩
theorem Itm.shows {k w : Nat} {d : D} (h : Itm k w d) (hk : k ≤ 100)
    (hw : w ≤ 200000) (_ : d.py.hasDict = true → d.noLst = true) :
    Shows d := by
  refine ⟨h.plain, h.able, Nat.le_trans h.deep hk, ?_⟩
  have q := PyData.shown_le 60 (by decide) d.py h.short
  have := h.wt
  rw [sizeLine_eq]
  omega
theorem Itm.show {k w : Nat} {d : D} (h : Itm k w d) (hk : k ≤ 100)
    (hw : w ≤ 200000) : Shows d := by
  refine ⟨h.plain, h.able, Nat.le_trans h.deep hk, ?_⟩
  have q := PyData.shown_le 60 (by decide) d.py h.short
  have := h.wt
  rw [sizeLine_eq]
  omega
theorem Itm.tup {k w : Nat} {xs : List D} (h : ∀ x ∈ xs, Itm k w x) :
    Itm (k + 1) ((w + 1) * xs.length) (.tup xs) := by
  refine ⟨?_, ?_, ?_, ?_, ?_⟩
  · rw [D.plain, plains_all, List.all_eq_true]
    exact fun x hx => (h x hx).plain
  · rw [D.py, PyData.showable, pys_map, showableAll_all, List.all_map,
      List.all_eq_true]
    exact fun x hx => (h x hx).able
  · have := depthAll_le (k := k) (D.pys xs) (fun x hx => by
      rw [pys_map] at hx
      obtain ⟨y, hy, rfl⟩ := List.mem_map.mp hx
      exact (h y hy).deep)
    simp only [D.py, PyData.depth]
    omega
  · rw [D.py, PyData.leavesShort, pys_map, leavesShortAll_all, List.all_map,
      List.all_eq_true]
    exact fun x hx => (h x hx).short
  · have := weightAll_le (k := w) (D.pys xs) (fun x hx => by
      rw [pys_map] at hx
      obtain ⟨y, hy, rfl⟩ := List.mem_map.mp hx
      exact (h y hy).wt)
    rw [pys_map, List.length_map] at this
    simp only [D.py, PyData.weight, pys_map]
    omega
theorem Itm.lst {k w : Nat} {xs : List D} (h : ∀ x ∈ xs, Itm k w x) :
    Itm (k + 1) ((w + 1) * xs.length) (.lst xs) := by
  refine ⟨?_, ?_, ?_, ?_, ?_⟩
  · rw [D.plain, plains_all, List.all_eq_true]
    exact fun x hx => (h x hx).plain
  · rw [D.py, PyData.showable, pys_map, showableAll_all, List.all_map,
      List.all_eq_true]
    exact fun x hx => (h x hx).able
  · have := depthAll_le (k := k) (D.pys xs) (fun x hx => by
      rw [pys_map] at hx
      obtain ⟨y, hy, rfl⟩ := List.mem_map.mp hx
      exact (h y hy).deep)
    simp only [D.py, PyData.depth]
    omega
  · rw [D.py, PyData.leavesShort, pys_map, leavesShortAll_all, List.all_map,
      List.all_eq_true]
    exact fun x hx => (h x hx).short
  · have := weightAll_le (k := w) (D.pys xs) (fun x hx => by
      rw [pys_map] at hx
      obtain ⟨y, hy, rfl⟩ := List.mem_map.mp hx
      exact (h y hy).wt)
    rw [pys_map, List.length_map] at this
    simp only [D.py, PyData.weight, pys_map]
    omega
/-- small whole numbers -/
theorem itm_int {i : Int} (h1 : -10000 ≤ i) (h2 : i ≤ 10000) :
    Itm 0 15 (.int i) := by
  have hl : i.natAbs.log2 < 14 :=
    PySem.Flt.log2_lt_of (by decide) (show i.natAbs < 2 ^ 14 by omega)
  refine ⟨rfl, ?_, by simp [D.py, PyData.depth], ?_, ?_⟩
  · rw [D.py, PyData.showable]
    exact decide_eq_true (by omega)
  · rw [D.py, PyData.leavesShort]
    refine decide_eq_true ?_
    have e := int_text_length_le (a := i) (k := 14) (by decide) hl
    show (Str.ofString (toString i)).length ≤ 60
    rw [PySem.ofString_length]
    omega
  · rw [D.py, PyData.weight]
    split
    · omega
    · omega
end Wt

namespace Wt
open PySem PySem.Spec PyProof.Rows L2
theorem tuple_mul_same (l : Addr) (items : Array Value) (n : Nat)
    (dd : Option Addr) (sl : Array (Option Value)) (x : Int) (u : Tok)
    (c0 : (decide (x < -(2 ^ 63)) || decide (x ≥ 2 ^ 63)) = false)
    (c1 : (items.isEmpty || x == 1) = true) :
    Meets (Builtin.«tuple.__mul__» ⟨[.ref l, .int x u], []⟩)
      (fun _ R s => s.heap.get? l = some
        { cls := .type "tuple", dict := dd, data := .seq items n, slots := sl } ∧
        R (.ok (.ret (Value.ref l))) s) :=
  .of_wp fun prog w A R s h => by
    obtain ⟨hp, g, d, tk, os⟩ := s
    obtain ⟨hl, h⟩ := h
    have f1 := AutoSeq1.idx_int
    wp_walk using wpAny_loadPart' hl
    repeat (first
      | (refine wpAny_ite_false (decide_eq_false (by rw [c0]; exact Bool.false_ne_true)) ?_; wp_walk using wpAny_loadPart' hl)
      | (refine wpAny_ite_true (decide_eq_true (by rw [c1])) ?_; wp_walk using wpAny_loadPart' hl))
    exact ⟨_, rfl, h⟩
theorem tuple_mul_none (l : Addr) (items : Array Value) (n : Nat)
    (dd : Option Addr) (sl : Array (Option Value)) (x : Int) (u : Tok)
    (c0 : (decide (x < -(2 ^ 63)) || decide (x ≥ 2 ^ 63)) = false)
    (c1 : (items.isEmpty || x == 1) = false)
    (c2 : (decide (x ≤ 0) || items.isEmpty) = true) :
    Meets (Builtin.«tuple.__mul__» ⟨[.ref l, .int x u], []⟩)
      (fun _ R s => s.heap.get? l = some
        { cls := .type "tuple", dict := dd, data := .seq items n, slots := sl } ∧
        R (.ok (.ret (Value.ref s.heap.objs.size))) { s with heap := s.heap.push { cls := Value.type "tuple", data := Data.seq #[] }, toks := s.toks }) :=
  .of_wp fun prog w A R s h => by
    obtain ⟨hp, g, d, tk, os⟩ := s
    obtain ⟨hl, h⟩ := h
    have f1 := AutoSeq1.idx_int
    wp_walk using wpAny_loadPart' hl
    repeat (first
      | (refine wpAny_ite_false (decide_eq_false (by rw [c0]; exact Bool.false_ne_true)) ?_; wp_walk using wpAny_loadPart' hl)
      | (refine wpAny_ite_false (decide_eq_false (by rw [c1]; exact Bool.false_ne_true)) ?_; wp_walk using wpAny_loadPart' hl)
      | (refine wpAny_ite_true (decide_eq_true (by rw [c2])) ?_; wp_walk using wpAny_loadPart' hl))
    exact ⟨_, rfl, h⟩
def rRepA (K : PySem.W.Frag) : R2 := fun x y H Q => ∃ l k xs,
  x = .ref l ∧ y = .int k ∧ SqT K H l xs ∧ 0 ≤ k ∧ k ≤ 1000 ∧
  xs.length ≤ 1000 ∧ (xs = [] ∨ k = 1 → Q (.ref l) H) ∧
  (xs ≠ [] → k ≠ 1 → NewT H (List.replicate k.toNat xs).flatten Q)
theorem op_repA {X : Cx} : OpR X (binaryOp .Mult) (rRepA X.K) := by
  intro pins s σ H x y v u Q I rx ry h
  obtain ⟨l, k, xs, rfl, rfl, hT, h1, h2, hz, q1, q2⟩ := h
  cases rx
  obtain ⟨t, rfl⟩ := ry
  obtain ⟨its, r, ⟨⟨cls, dd, data, sl⟩, ho, hc, n, hd⟩, hs⟩ := I.tuple hT
  simp only at hc hd
  subst hc hd
  have hle : its.length = xs.length := r.length.symm
  have c0 : (decide (k < -(2 ^ 63)) || decide (k ≥ 2 ^ 63)) = false := by
    rw [decide_eq_false (by omega), decide_eq_false (by omega)]; rfl
  by_cases hsame : xs = [] ∨ k = 1
  · have c1 : (its.toArray.isEmpty || k == 1) = true := by
      rcases hsame with e | e
      · subst e
        cases its with
        | nil => rfl
        | cons a b => simp at hle
      · subst e
        simp
    exact wpAny_binaryOp_repeat_ref (T := "tuple") (U := "int") (by decide)
      ⟨_, ho, rfl⟩ (fun s' => typeIs_int s' k t) noFill_tuple_mul
      F.fills_int_mul F.slot_int_rmul repeat_tuple F.slot_int_index.lookup
      (call_meets F.slot_int_rmul (typeIs_int s k t) F.entry_int_rmul
        (F.args_int_rmul_2 _ _) (int_rmul_tuple k t l its.toArray n dd sl)
        ⟨ho, rfl, ⟨_, ho, rfl⟩, call_meets F.slot_tuple_mul ⟨_, ho, rfl⟩
          F.entry_tuple_mul (F.args_tuple_mul_2 _ _)
          (tuple_mul_same l its.toArray n dd sl k t c0 c1)
          ⟨ho, .ref l, H, I, rfl, q1 hsame⟩⟩)
  · have hne : xs ≠ [] := fun e => hsame (.inl e)
    have hk1 : k ≠ 1 := fun e => hsame (.inr e)
    have hi : its.toArray.isEmpty = false := by
      cases its with
      | nil => exact absurd (List.eq_nil_of_length_eq_zero hle.symm) hne
      | cons a b => rfl
    have c1 : (its.toArray.isEmpty || k == 1) = false := by
      rw [hi, Bool.false_or]
      exact beq_eq_false_iff_ne.mpr hk1
    have q := q2 hne hk1
    by_cases hk0 : k = 0
    · subst hk0
      refine wpAny_binaryOp_repeat_ref (T := "tuple") (U := "int") (by decide)
        ⟨_, ho, rfl⟩ (fun s' => typeIs_int s' 0 t) noFill_tuple_mul
        F.fills_int_mul F.slot_int_rmul repeat_tuple F.slot_int_index.lookup
        (call_meets F.slot_int_rmul (typeIs_int s 0 t) F.entry_int_rmul
          (F.args_int_rmul_2 _ _) (int_rmul_tuple 0 t l its.toArray n dd sl)
          ⟨ho, rfl, ⟨_, ho, rfl⟩, call_meets F.slot_tuple_mul ⟨_, ho, rfl⟩
            F.entry_tuple_mul (F.args_tuple_mul_2 _ _)
            (tuple_mul_none l its.toArray n dd sl 0 t c0 c1 rfl) ⟨ho, ?_⟩⟩)
      exact ep_newT (xs := []) (its := []) (n := 0) (tk := s.toks) I
        (Nat.zero_le _) .nil q
    · have hsz0 : its.toArray.size = xs.length := by
        rw [List.size_toArray, hle]
      have hm : ((its.toArray.size : Nat) : Int) * k ≤ 1000000 := by
        rw [hsz0]
        have a1 : ((xs.length : Nat) : Int) * k ≤ 1000 * k :=
          Int.mul_le_mul_of_nonneg_right (by omega) (by omega)
        omega
      have flen : (List.replicate k.toNat its).flatten.length ≤ sizeLine := by
        rw [PyProof.Rows.lm_len_rep_flat, hle, sizeLine_eq]
        have a1 : k.toNat * xs.length ≤ 1000 * 1000 :=
          Nat.mul_le_mul (by omega) hz
        omega
      have c2 : (decide (k ≤ 0) || its.toArray.isEmpty) = false := by
        rw [hi, Bool.or_false]
        exact decide_eq_false (by omega)
      have c4 : Builtin.Tuple.tupleTooMany
          (((its.toArray.size : Nat) : Int) * k) = false := by
        unfold Builtin.Tuple.tupleTooMany
        rw [sizeLine_eq]
        exact decide_eq_false (by omega)
      refine wpAny_binaryOp_repeat_ref (T := "tuple") (U := "int") (by decide)
        ⟨_, ho, rfl⟩ (fun s' => typeIs_int s' k t) noFill_tuple_mul
        F.fills_int_mul F.slot_int_rmul repeat_tuple F.slot_int_index.lookup
        (call_meets F.slot_int_rmul (typeIs_int s k t) F.entry_int_rmul
          (F.args_int_rmul_2 _ _) (int_rmul_tuple k t l its.toArray n dd sl)
          ⟨ho, rfl, ⟨_, ho, rfl⟩, call_meets F.slot_tuple_mul ⟨_, ho, rfl⟩
            F.entry_tuple_mul (F.args_tuple_mul_2 _ _)
            (tuple_mulW l its.toArray n dd sl k t c0 c1 c2 (by omega) c4
              (by rw [size_rep, List.size_toArray]; exact flen)) ⟨ho, ?_⟩⟩)
      rw [size_rep]
      have rr : Vals (List.replicate k.toNat xs).flatten
          (List.replicate k.toNat its).flatten := by
        have : ∀ n : Nat, Vals (List.replicate n xs).flatten
            (List.replicate n its).flatten := by
          intro n
          induction n with
          | zero => exact .nil
          | succ n ih =>
            rw [List.replicate_succ, List.replicate_succ, List.flatten_cons,
              List.flatten_cons]
            exact r.append ih
        exact this _
      exact ep_newT (n := 0) (tk := s.toks) I (by rw [rr.length]; exact flen) rr q
section
variable {K : PySem.W.Frag} {l : Option Addr} {ρ : Ro} {m : Nat}
variable {Φ : Nat → D → Prop} {Θ : Nat → Bool → Prop}
variable {Nx : Nat → Ro → Prop} {Rt : Nat → D → Prop} {ts tb : TS}
variable {ta te tl : TE} {t u : TT} {tA tK : TA}
variable {Z : Addr → Prop} {B H : Hp} {σ : L2.St}
theorem IsAll.rep {vs : List V} {ds : List D} (h : IsAll K B vs ds) :
    ∀ n : Nat, IsAll K B (List.replicate n vs).flatten
      (List.replicate n ds).flatten
  | 0 => .nil
  | n + 1 => by
    rw [List.replicate_succ, List.replicate_succ, List.flatten_cons,
      List.flatten_cons]
    exact h.append (IsAll.rep h n)
theorem v_repT {ds : List D} {k : Int} (h0 : 0 ≤ k) (h1 : k ≤ 1000)
    (hl : ds.length ≤ 1000)
    (q : Φ m (.tup (List.replicate k.toNat ds).flatten)) :
    VvC K l ρ (fun vs H Q => ∃ x y, vs = [x, y] ∧ rRepA K x y H Q)
      [.tup ds, .int k] m Φ := by
  intro Z B H σ vs Q ok is kk
  obtain ⟨v, w, rfl, h, h2⟩ := isAll2 is
  cases h2
  cases h with
  | @tup a us _ h r hcl =>
    refine ⟨_, _, rfl, a, k, us, rfl, rfl, sameT ok.sub h, h0, h1,
      by rw [r.length]; exact hl, fun e => ?_, fun n1 n2 p ob hp hd _ => ?_⟩
    · have e2 : (List.replicate k.toNat ds).flatten = ds := by
        rcases e with e | e
        · subst e
          cases r
          simp
        · subst e
          simp
      rw [e2] at q
      exact kk _ _ m B H ok Fr.refl (.tup h r hcl) q
    · obtain ⟨o2, f2⟩ := ok.new
        (o := .frz ob (.tup (List.replicate k.toNat us).flatten)) hp
      exact kk _ _ m _ _ o2 f2 (.newT upd_same hd
        ((r.mono f2.sub).rep _)) q
theorem v_repL {ds : List D} {k : Int} (h0 : 0 ≤ k) (h1 : k ≤ 1000)
    (hl : ds.length ≤ 1000)
    (q : Φ m (.lst (List.replicate k.toNat ds).flatten)) :
    VvC K l ρ (fun vs H Q => ∃ x y, vs = [x, y] ∧ rRep x y H Q)
      [.lst ds, .int k] m Φ := by
  intro Z B H σ vs Q ok is kk
  obtain ⟨v, w, rfl, h, h2⟩ := isAll2 is
  cases h2
  cases h with
  | @lst a us _ h r =>
    refine ⟨_, _, rfl, a, k, us, rfl, rfl, ok.sub _ _ h, by omega, by omega, ?_,
      fun p hp => ?_⟩
    · rw [r.length]
      have : ds.length * k.toNat ≤ 1000 * 1000 := Nat.mul_le_mul hl (by omega)
      rw [sizeLine_eq]
      omega
    · obtain ⟨o2, f2⟩ := ok.new (o := .lst (List.replicate k.toNat us).flatten) hp
      exact kk _ _ m _ _ o2 f2 (.lst upd_same ((r.mono f2.sub).rep _)) q
theorem dec_int2 (i j : Int) : decide (V.int i = V.int j) = decide (i = j) := by
  by_cases h : i = j
  · subst h; simp
  · rw [decide_eq_false h, decide_eq_false (fun z => h (V.int.inj z))]
theorem v_eqI {i j : Int} (q : Φ m (.bl (decide (i = j)))) :
    VvC K l ρ (fun vs H Q => ∃ x y, vs = [x, y] ∧ rEq x y H Q)
      [.int i, .int j] m Φ := by
  intro Z B H σ vs Q ok is k
  obtain ⟨v, w, rfl, h, h2⟩ := isAll2 is
  cases h
  cases h2
  refine ⟨_, _, rfl, rfl, k _ _ m B H ok Fr.refl (.bl _) ?_⟩
  rw [dec_int2]
  exact q
theorem v_neI {i j : Int} (q : Φ m (.bl (!decide (i = j)))) :
    VvC K l ρ (fun vs H Q => ∃ x y, vs = [x, y] ∧ rNe x y H Q)
      [.int i, .int j] m Φ := by
  intro Z B H σ vs Q ok is k
  obtain ⟨v, w, rfl, h, h2⟩ := isAll2 is
  cases h
  cases h2
  refine ⟨_, _, rfl, rfl, k _ _ m B H ok Fr.refl (.bl _) ?_⟩
  rw [dec_int2]
  exact q
mutual
def D.noDic : D → Bool
  | .lst xs => D.noDics xs
  | .tup xs => D.noDics xs
  | .dic _ => false
  | .ins _ _ _ => false
  | .scr _ => false
  | .dct _ _ => false
  | _ => true
def D.noDics : List D → Bool
  | [] => true
  | x :: xs => D.noDic x && D.noDics xs
end
mutual
theorem Is.dp (sb : Same B H) : ∀ {v : V} {d : D}, Is K B v d →
    d.noDic = true → Dp K H v d.py
  | _, _, .non, _ => .non
  | _, _, .bl b, _ => .bl b
  | _, _, .int i, _ => .int i
  | _, _, .str x, _ => .str x
  | _, _, .lst h r, e => by
    rw [D.noDic] at e
    exact .lst (SqL.of (sb _ _ h)) (IsAll.dp sb r e)
  | _, _, .tup h r _, e => by
    rw [D.noDic] at e
    exact .tup (sameT sb h) (IsAll.dp sb r e)
  | _, _, .dic _, e => by simp [D.noDic] at e
  | _, _, .ins _ _, e => by simp [D.noDic] at e
  | _, _, .scr _, e => by simp [D.noDic] at e
  | _, _, .dct _ _ _, e => by simp [D.noDic] at e
theorem IsAll.dp (sb : Same B H) : ∀ {vs : List V} {ds : List D},
    IsAll K B vs ds → D.noDics ds = true → DpAll K H vs (D.pys ds)
  | _, _, .nil, _ => .nil
  | _, _, .cons h r, e => by
    rw [D.noDics, Bool.and_eq_true] at e
    exact .cons (Is.dp sb h e.1) (IsAll.dp sb r e.2)
end
structure Eqs (d : D) : Prop where
  plain : d.noDic = true
  shaped : SeqAt.shaped d.py = true
theorem v_eqD {a b : D} (ha : Eqs a) (hb : Eqs b)
    (q : Φ m (.bl (PyData.eqv a.py b.py))) :
    VvC K l ρ (fun vs H Q => ∃ x y, vs = [x, y] ∧ rEqD K x y H Q)
      [a, b] m Φ := by
  intro Z B H σ vs Q ok is k
  obtain ⟨v, w, rfl, h, h2⟩ := isAll2 is
  exact ⟨_, _, rfl, _, _, h.dp ok.sub ha.plain, h2.dp ok.sub hb.plain,
    ha.shaped, hb.shaped, k _ _ m B H ok Fr.refl (.bl _) q⟩
theorem v_neD {a b : D} (ha : Eqs a) (hb : Eqs b)
    (q : Φ m (.bl (!PyData.eqv a.py b.py))) :
    VvC K l ρ (fun vs H Q => ∃ x y, vs = [x, y] ∧ rNeD K x y H Q)
      [a, b] m Φ := by
  intro Z B H σ vs Q ok is k
  obtain ⟨v, w, rfl, h, h2⟩ := isAll2 is
  exact ⟨_, _, rfl, _, _, h.dp ok.sub ha.plain, h2.dp ok.sub hb.plain,
    ha.shaped, hb.shaped, k _ _ m B H ok Fr.refl (.bl _) q⟩
end
end Wt

namespace Wt
open PySem PySem.Spec PyProof.Rows L2 RZ
section
variable {K : PySem.W.Frag} {l : Option Addr} {ρ : Ro} {m : Nat}
variable {Φ : Nat → D → Prop} {Θ : Nat → Bool → Prop}
variable {Nx : Nat → Ro → Prop} {Rt : Nat → D → Prop} {ts tb : TS}
variable {ta te tl : TE} {t u : TT} {tA tK : TA}
variable {Z Z' : Addr → Prop} {B H : Hp} {σ : L2.St}
theorem Ok.less (h : Ok K l Z' m B H σ ρ) (hz : ∀ z, Z z → Z' z) :
    Ok K l Z m B H σ ρ := by
  refine ⟨⟨h.sub, h.hand, fun z q => h.zs z (hz z q)⟩, h.len, ?_, h.dis⟩
  intro i s e
  obtain ⟨v, e1, q⟩ := h.sl i s e
  refine ⟨v, e1, ?_⟩
  cases s with
  | dat d => exact q
  | hand => exact q
  | own ds =>
    obtain ⟨a, xs, rfl, q1, q2, q3, q4, q5⟩ := q
    exact ⟨a, xs, rfl, q1, q2, fun z => q3 (hz a z), q4, q5⟩
  | obj R =>
    obtain ⟨a, xs, rfl, q1, q2, q3, q4, q5⟩ := q
    exact ⟨a, xs, rfl, q1, q2, fun z => q3 (hz a z), q4, q5⟩
/-- a new object of which nothing is told -/
theorem Ok.junk {p : Addr} {o : HO} (h : Ok K l Z m B H σ ρ)
    (hp : H p = none) : Ok K l Z m B (upd H p o) σ ρ ∧
      Fr Z B H B (upd H p o) :=
  ⟨(h.aside hp).less fun z q => .inl q,
    ⟨Same.refl B, fun z q => upd_ne fun e => (h.zs z q).1 (e ▸ hp)⟩⟩
theorem set_none {j : Nat} (e : ρ[j]? = some none) : ρ.set j none = ρ := by
  obtain ⟨hj, q⟩ := List.getElem?_eq_some_iff.mp e
  rw [← q, List.set_getElem_self]
theorem Ok.back {j : Nat} {v : Option V}
    (h : Ok K l Z m B H (σ.set j v) ρ) (e : ρ[j]? = some none) :
    Ok K l Z m B H σ ρ := by
  rw [← set_none e] at h
  exact h.unset e
theorem Ok.any {j : Nat} {v : Option V} (h : Ok K l Z m B H σ ρ)
    (e : ρ[j]? = some none) : Ok K l Z m B H (σ.set j v) ρ := by
  have ne : ∀ (i : Nat) x, ρ[i]? = some (some x) → j ≠ i := fun i x q z => by
    subst z; rw [e] at q; cases q
  refine ⟨h.toBs, by rw [List.length_set]; exact h.len, fun i s q => ?_,
    fun i k ds es a n p1 p2 q1 q2 => ?_⟩
  · rw [List.getElem?_set_ne (ne i s q)]
    exact h.sl i s q
  · rw [List.getElem?_set_ne (ne i _ q1), List.getElem?_set_ne (ne k _ q2)]
    exact h.dis i k ds es a n p1 p2 q1 q2
/-- the target of a pair -/
abbrev g2 (K : PySem.W.Frag) (i j : Nat) : TG :=
  gTup K 2 (gCons (gName i) (gCons (gName j) gNil))
theorem walk_zipT {a b : Addr} {xs ys : List V} {n : Nat}
    (hn : n = min xs.length ys.length) : Walk (ItzT K a b) n
      (fun H => SqT K H a xs ∧ SqT K H b ys)
      (YPair (fun i => xs[i]?) (fun i => ys[i]?)) := by
  refine ⟨fun i H hi h => ?_, fun H h => ⟨xs, ys, h.1, h.2, by omega⟩,
    fun i H x H' hi h q => ?_⟩
  · exact ⟨xs, ys, xs[i]'(by omega), ys[i]'(by omega), h.1, h.2,
      List.getElem?_eq_getElem _, List.getElem?_eq_getElem _⟩
  · obtain ⟨T, x1, y1, rfl, hT, rfl, e1, e2⟩ := q
    exact ⟨T, x1, y1, rfl, hT, rfl, e1 xs h.1, e2 ys h.2⟩
theorem lcw_turn2 {A T : Addr} {I : Nat → Nat → List D → Prop} {c i j : Nat}
    {x y : V} {H' : Hp} {P : D → D → Prop} (hz : ¬ Z A)
    (hi : ρ[i]? = some none) (hj : ρ[j]? = some none) (hij : i ≠ j)
    (w : LcW K l Z ρ σ B H A I c H') (hT : H' T = none)
    (hx : ∀ B', Same B B' → ∃ d e, Is K B' x d ∧ Is K B' y e ∧ P d e)
    (hc : c < 100000)
    (he : ∀ d e n acc, P d e → I c n acc → acc.length = c →
      EvC K l te ((ρ.set i (some (.dat d))).set j (some (.dat e))) n
        fun n2 y => I (c + 1) n2 (acc ++ [y])) :
    g2 K i j (.ref T) (wipe σ [i, j]) (upd H' T (.tup [x, y])) fun σ2 H2 =>
      wipe σ2 [i, j] = wipe σ [i, j] ∧ tYes σ2 H2 fun b H3 =>
        if b = true then te σ2 H3 fun y H4 =>
          ∃ acc, H4 A = some (.lst acc) ∧ acc.length < sizeLine ∧
            LcW K l Z ρ σ B H A I (c + 1) (upd H4 A (.lst (acc ++ [y])))
        else LcW K l Z ρ σ B H A I (c + 1) H3 := by
  obtain ⟨n, acc, xs, B', ok, fr, hA, is, hI, hl⟩ := w
  obtain ⟨d, e, hd, he', hP⟩ := hx B' fr.sub
  refine ⟨T, [x, y], rfl, SqT.of upd_same, rfl, x, [y], rfl, y, [], rfl, rfl, ?_⟩
  have e1 : ((wipe σ [i, j]).set i (some x)).set j (some y) =
      (σ.set i (some x)).set j (some y) := by
    show ((((σ.set j none).set i none).set i (some x)).set j (some y)) = _
    rw [List.set_set, List.set_comm _ _ hij, List.set_set, List.set_comm _ _ (Ne.symm hij)]
  have e2 : wipe ((σ.set i (some x)).set j (some y)) [i, j] =
      wipe σ [i, j] := by
    show (((σ.set i (some x)).set j (some y)).set j none).set i none =
      (σ.set j none).set i none
    rw [List.set_set, List.set_comm _ _ hij, List.set_set]
  unfold tYes
  dsimp only
  rw [e1, if_pos rfl]
  refine ⟨e2, ?_⟩
  obtain ⟨okJ, frJ⟩ := ok.junk (o := .tup [x, y]) hT
  have nTA : A ≠ T := fun z => by rw [z, hT] at hA; cases hA
  refine he d e n acc hP hI hl _ B' _ _ _ ((okJ.set hd).set he')
    fun v y2 n2 B2 H2 o2 f2 i2 g2 => ?_
  have hA2 : H2 A = some (.lst xs) := by
    rw [f2.kept A (.inr rfl), upd_ne nTA]
    exact hA
  have hj2 : (ρ.set i (some (.dat d)))[j]? = some none := by
    rw [List.getElem?_set_ne hij]; exact hj
  refine ⟨xs, hA2, ?_, n2, acc ++ [y2], xs ++ [v], B2,
    ((o2.unset hj2).unset hi).write (.inr rfl), ?_, upd_same,
    (is.mono f2.sub).append (.cons i2 .nil), g2, by simp [hl]⟩
  · rw [is.length, hl]
    exact Nat.lt_of_lt_of_le hc (by decide)
  · refine ⟨fr.sub.trans f2.sub, fun z hz' => ?_⟩
    rw [upd_ne (fun (e : z = A) => hz (e ▸ hz'))]
    rw [f2.kept z (.inl hz'), frJ.kept z (.inl hz')]
    exact fr.kept z hz'
/-- [e for a, b in zip(t, u)] of two tuples -/
theorem e_lcZ {i j : Nat} (hi : ρ[i]? = some none) (hj : ρ[j]? = some none)
    (hij : i ≠ j)
    (h : AvC K l tA ρ m fun m1 as => ∃ xs ys, as = [.tup xs, .tup ys] ∧
      xs.length ≤ 50000 ∧ ∃ I : Nat → Nat → List D → Prop, I 0 m1 [] ∧
      (∀ c n acc d e, xs[c]? = some d → ys[c]? = some e → I c n acc →
        acc.length = c →
        EvC K l te ((ρ.set i (some (.dat d))).set j (some (.dat e))) n
          fun n2 y => I (c + 1) n2 (acc ++ [y])) ∧
      ∀ n acc, acc.length = min xs.length ys.length →
        I (min xs.length ys.length) n acc → Φ n (.lst acc)) :
    EvC K l (tLc (iZipA K tA) (g2 K i j) tYes te [i, j]) ρ m Φ := by
  intro Z B H σ Q ok k
  refine h Z B H σ _ ok fun vs as m1 B1 H1 o1 f1 i1 g1 => ?_
  obtain ⟨xs, ys, rfl, hl, I, h0, hs, hd⟩ := g1
  obtain ⟨v, w, rfl, z1, z2⟩ := isAll2 i1
  cases z1 with
  | @tup a us _ hu r1 =>
    cases z2 with
    | @tup b ws _ hw r2 =>
      refine ⟨a, b, us, ws, rfl, .inr ⟨sameT o1.sub hu, sameT o1.sub hw,
        fun A hA => ?_⟩⟩
      have hz : ¬ Z A := fun z => (o1.zs A z).1 hA
      refine lc_it (walk_zipT (xs := us) (ys := ws) rfl)
        (LcW K l Z ρ σ B1 H1 A I) (lcw_start o1 hA h0)
        (fun c H' _ w => ?_) (fun c x H' H'' hc w q => ?_) fun H' w => ?_
      · obtain ⟨n, acc, zs, B', ok', fr', _⟩ := w
        exact ⟨sameT ok'.sub (sameT fr'.sub hu),
          sameT ok'.sub (sameT fr'.sub hw)⟩
      · obtain ⟨T, x1, y1, rfl, hT, rfl, e1, e2⟩ := q
        refine lcw_turn2 (P := fun d e => xs[c]? = some d ∧ ys[c]? = some e)
          hz hi hj hij w hT (fun B' sb => ?_)
          (by rw [r1.length] at hc; omega)
          fun d e n acc p => hs c n acc d e p.1 p.2
        obtain ⟨d, q1, p1⟩ := (r1.mono sb).get e1
        obtain ⟨e, q2, p2⟩ := (r2.mono sb).get e2
        exact ⟨d, e, p1, p2, q1, q2⟩
      · rw [r1.length, r2.length] at w
        exact lcw_end hz w hd fun v d m' B2 H2 o2 f2 i2 g2 =>
          k v d m' B2 H2 o2 (f1.trans f2) i2 g2
def LcV (K : PySem.W.Frag) (l : Option Addr) (Z : Addr → Prop) (ρ : Ro)
    (σ : L2.St) (B H : Hp) (A : Addr) (I : Nat → List D → Prop)
    (H' : Hp) : Prop :=
  ∃ n acc xs B', Ok K l (fun a => Z a ∨ a = A) n B' H' σ ρ ∧
    Fr Z B H B' H' ∧ H' A = some (.lst xs) ∧ IsAll K B' xs acc ∧ I n acc
end
end Wt

namespace Wt
open PySem PySem.Spec PyProof.Rows L2 HT
section
variable {prog : Program} {w : World} {A : Around}
variable {E : Value → Shared → Prop} {s : Shared}
end
def tRevT (K : PySem.W.Frag) (te : TE) : TE := fun σ H Q =>
  te σ H fun x H1 => ∃ a xs, x = .ref a ∧ SqT K H1 a xs ∧
    NewT H1 xs.reverse Q
section
variable {X : Cx}
end
section
variable {K : PySem.W.Frag} {l : Option Addr} {ρ : Ro} {m : Nat}
variable {Φ : Nat → D → Prop} {te : TE} {B : Hp}
theorem IsAll.reverse : ∀ {vs : List V} {ds : List D}, IsAll K B vs ds →
    IsAll K B vs.reverse ds.reverse
  | _, _, .nil => .nil
  | _, _, .cons h r => by
    rw [List.reverse_cons, List.reverse_cons]
    exact (IsAll.reverse r).append (.cons h .nil)
theorem e_revT (h : EvC K l te ρ m fun m1 x => ∃ ds, x = .tup ds ∧
      Φ m1 (.tup ds.reverse)) : EvC K l (tRevT K te) ρ m Φ := by
  intro Z B H σ Q ok k
  refine h Z B H σ _ ok fun v x m1 B1 H1 o1 f1 i1 g1 => ?_
  obtain ⟨ds, rfl, q⟩ := g1
  cases i1 with
  | @tup a us _ hu r =>
    refine ⟨a, us, rfl, sameT o1.sub hu, fun p ob hp hd _ => ?_⟩
    obtain ⟨o2, f2⟩ := o1.new (o := .frz ob (.tup us.reverse)) hp
    exact k _ _ m1 _ _ o2 (f1.trans f2) (.newT upd_same hd
      (r.mono f2.sub).reverse) q
end
end Wt

namespace Wt
open PySem PySem.Spec PyProof.Rows L2
/-- the tuples at a, b, c, an item of each in a new triple -/
def ItZ3 (K : PySem.W.Frag) (a b c : Addr) : It where
  go := fun i H => ∃ xs ys zs : List V, SqT K H a xs ∧ SqT K H b ys ∧
    SqT K H c zs ∧ i < min (min xs.length ys.length) zs.length
  yld := fun i H v H' => ∃ T x y z, v = .ref T ∧ H T = none ∧
    H' = upd H T (.tup [x, y, z]) ∧ (∀ xs, SqT K H a xs → xs[i]? = some x) ∧
    (∀ ys, SqT K H b ys → ys[i]? = some y) ∧
    ∀ zs, SqT K H c zs → zs[i]? = some z
  stop := fun i H => ∃ xs ys zs : List V, SqT K H a xs ∧ SqT K H b ys ∧
    SqT K H c zs ∧ i = min (min xs.length ys.length) zs.length
theorem sep3 {n a b c : Nat} (ha : a < n) (hb : b < n) (hc : c < n) :
    ZipSep3 (n + 5) (n + 3) (n + 4) n (n + 1) (n + 2) [n, a] [n + 1, b]
      [n + 2, c] := by
  constructor <;> first
    | exact List.mem_cons_self
    | (intro z; have z : (_ : Nat) = _ := z; omega)
    | (intro z; simp only [List.mem_cons, List.not_mem_nil, or_false] at z
       rcases z with z | z <;> (have z : (_ : Nat) = _ := z; omega))
abbrev y3 (xs ys zs : Array Value) (i : Nat) (h0 : Heap) (v : Value)
    (h : Heap) : Prop := ∃ T x y u, v = .ref T ∧ h0.objs.size ≤ T ∧
  xs[i]? = some x ∧ ys[i]? = some y ∧ zs[i]? = some u ∧
  h.IsTuple T #[x, y, u]
abbrev st3 (n a b c : Nat) (xs ys zs : Array Value) (i : Nat) (h : Heap) :
    Prop := IsZip h (n + 5) (n + 3) (n + 4) .none ∧
  IsTupOf3 h (n + 3) (.ref n) (.ref (n + 1)) (.ref (n + 2)) ∧
  (∃ a1 a2 a3, IsTupOf3 h (n + 4) a1 a2 a3) ∧
  (h.IsTupleIter n a i ∧ h.IsTuple a xs) ∧
  (h.IsTupleIter (n + 1) b i ∧ h.IsTuple b ys) ∧
  (h.IsTupleIter (n + 2) c i ∧ h.IsTuple c zs)
theorem goes3 {prog : Program} {w : World} {A : Around} {elts : List Expr}
    {k : Nat} {pos : Pos} {n a b c : Nat} (hh : A.handled = none)
    (ha : a < n) (hb : b < n) (hc : c < n) (xs ys zs : Array Value) :
    GoesN prog w A (.Tuple elts k pos) (n + 5)
      ((n + 5) :: (n + 3) :: (n + 4) :: ([n, a] ++ [n + 1, b] ++ [n + 2, c]))
      [n + 5, n + 4, n, n + 1, n + 2]
      (min (min xs.size ys.size) zs.size) (y3 xs ys zs) (st3 n a b c xs ys zs) :=
  GoesN.zip3 (sep3 ha hb hc)
    (Draws.tuple (A := A.in1) hh n a (Nat.ne_of_lt ha) xs)
    (Draws.tuple (A := A.in1) hh (n + 1) b (Nat.ne_of_lt (Nat.lt_succ_of_lt hb)) ys)
    (Draws.tuple (A := A.in1) hh (n + 2) c (Nat.ne_of_lt (Nat.lt_succ_of_lt (Nat.lt_succ_of_lt hc))) zs)
def tn3 (n a b c i : Nat) (h : Heap) : Prop :=
  IsZip h (n + 5) (n + 3) (n + 4) .none ∧
  IsTupOf3 h (n + 3) (.ref n) (.ref (n + 1)) (.ref (n + 2)) ∧
  (∃ a1 a2 a3, IsTupOf3 h (n + 4) a1 a2 a3) ∧ h.IsTupleIter n a i ∧
  h.IsTupleIter (n + 1) b i ∧ h.IsTupleIter (n + 2) c i
theorem turn3 {P : Program} {w : World} {K : PySem.W.Frag}
    {elts : List Expr} {kk : Nat} {tpos : Pos} {n a b c : Nat}
    (ha : a < n) (hb : b < n) (hc : c < n) :
    Turn P w K (.Tuple elts kk tpos) (ItZ3 K a b c)
      [n + 5, n + 3, n + 4, n, n + 1, n + 2] (n + 5) (tn3 n a b c) where
  mem := List.mem_cons_self
  obj := fun i h st x hx => by
    obtain ⟨hz, hI, ⟨a1, a2, a3, hO⟩, ⟨o1, e1, _, d1⟩, ⟨o2, e2, _, d2⟩,
      o3, e3, _, d3⟩ := st
    simp only [List.mem_cons, List.not_mem_nil, or_false] at hx
    rcases hx with rfl | rfl | rfl | rfl | rfl | rfl
    · exact ⟨_, hz, nofun⟩
    · exact ⟨_, hI, nofun⟩
    · exact ⟨_, hO, nofun⟩
    · exact ⟨o1, e1, fun v q => by rw [d1] at q; cases q⟩
    · exact ⟨o2, e2, fun v q => by rw [d2] at q; cases q⟩
    · exact ⟨o3, e3, fun v q => by rw [d3] at q; cases q⟩
  keep := fun i h h' st k => by
    obtain ⟨hz, hI, ⟨a1, a2, a3, hO⟩, h1, h2, h3⟩ := st
    exact ⟨k _ (by simp) _ hz, k _ (by simp) _ hI,
      ⟨a1, a2, a3, k _ (by simp) _ hO⟩,
      h1.at fun o q => k n (by simp) o q,
      h2.at fun o q => k (n + 1) (by simp) o q,
      h3.at fun o q => k (n + 2) (by simp) o q⟩
  item := by
    intro X hP hw hK hcl i pins s σ H E I hf st hg
    subst hP hw hK
    obtain ⟨hz, hI, hO, h1, h2, h3⟩ := id st
    obtain ⟨xs, ys, zs, q1, q2, q3, hi⟩ := hg
    obtain ⟨its1, r1, p1, _⟩ := I.tuple q1
    obtain ⟨its2, r2, p2, _⟩ := I.tuple q2
    obtain ⟨its3, r3, p3, _⟩ := I.tuple q3
    have l1 := r1.length
    have l2 := r2.length
    have l3 := r3.length
    have lt : ∀ d ∈ [n + 5, n + 3, n + 4, n, n + 1, n + 2],
        d < s.heap.objs.size := by
      intro d hd
      obtain ⟨a1, a2, a3, hO⟩ := hO
      obtain ⟨o1, e1, _⟩ := h1
      obtain ⟨o2, e2, _⟩ := h2
      obtain ⟨o3, e3, _⟩ := h3
      simp only [List.mem_cons, List.not_mem_nil, or_false] at hd
      rcases hd with rfl | rfl | rfl | rfl | rfl | rfl
      · exact Heap.lt_size hz
      · exact Heap.lt_size hI
      · exact Heap.lt_size hO
      · exact Heap.lt_size e1
      · exact Heap.lt_size e2
      · exact Heap.lt_size e3
    refine (goes3 (I.ok.hd hcl) ha hb hc its1.toArray its2.toArray
      its3.toArray).goes i s _ E (by simp only [List.size_toArray]; omega)
      ⟨hz, hI, hO, ⟨h1, p1⟩, ⟨h2, p2⟩, ⟨h3, p3⟩⟩
      fun v h' tk hY st' hk htk => ?_
    obtain ⟨T, x, y, u, rfl, hT, e1, e2, e3, hTu⟩ := hY
    obtain ⟨vx, ex⟩ : ∃ vx, xs[i]? = some vx :=
      ⟨xs[i]'(by omega), List.getElem?_eq_getElem _⟩
    obtain ⟨vy, ey⟩ : ∃ vy, ys[i]? = some vy :=
      ⟨ys[i]'(by omega), List.getElem?_eq_getElem _⟩
    obtain ⟨vz, ez⟩ : ∃ vz, zs[i]? = some vz :=
      ⟨zs[i]'(by omega), List.getElem?_eq_getElem _⟩
    obtain ⟨u1, g1, k1⟩ := r1.get ex
    obtain ⟨u2, g2, k2⟩ := r2.get ey
    obtain ⟨u3, g3, k3⟩ := r3.get ez
    rw [List.getElem?_toArray] at e1 e2 e3
    rw [g1] at e1
    rw [g2] at e2
    rw [g3] at e3
    cases e1
    cases e2
    cases e3
    have new : ObjOk X.prog X.w (upd H T (.tup [vx, vy, vz])) h' T
        (.tup [vx, vy, vz]) :=
      ⟨by show 3 ≤ sizeLine; decide, [x, y, u],
        .cons k1 (.cons k2 (.cons k3 .nil)), hTu⟩
    have I1 := I.turnedNew (t' := tk)
      (ch := [n + 5, n + 3, n + 4, n, n + 1, n + 2])
      (fun d o hd q => hk d o (fun z => hd (by
        simp only [List.mem_cons, List.not_mem_nil, or_false] at z ⊢
        rcases z with z | z | z | z | z <;> simp [z])) q) hf hT new
    obtain ⟨z1, z2, z3, z4, z5, z6⟩ := st'
    refine ⟨.ref T, _, I1, rfl, ⟨T, vx, vy, vz, rfl, I.hok.fresh hT, rfl,
      fun l hl => ?_, fun l hl => ?_, fun l hl => ?_⟩,
      ⟨z1, z2, z3, z4.1, z5.1, z6.1⟩, fun d hd => ?_⟩
    · rw [I.tuple_inj hl q1]; exact ex
    · rw [I.tuple_inj hl q2]; exact ey
    · rw [I.tuple_inj hl q3]; exact ez
    · have := lt d hd
      rw [upd_ne (fun (z : d = T) => Nat.lt_irrefl d (Nat.lt_of_lt_of_le this (z ▸ hT)))]
      exact (hf d hd).1
  done := by
    intro X hP hw hK hcl i pins s σ H E I hf st hg
    subst hP hw hK
    obtain ⟨hz, hI, hO, h1, h2, h3⟩ := st
    obtain ⟨xs, ys, zs, q1, q2, q3, hi⟩ := hg
    obtain ⟨its1, r1, p1, _⟩ := I.tuple q1
    obtain ⟨its2, r2, p2, _⟩ := I.tuple q2
    obtain ⟨its3, r3, p3, _⟩ := I.tuple q3
    have e : min (min its1.toArray.size its2.toArray.size)
        its3.toArray.size = i := by
      have l1 := r1.length
      have l2 := r2.length
      have l3 := r3.length
      simp only [List.size_toArray]
      omega
    refine (goes3 (prog := X.prog) (w := X.w) (elts := elts) (k := kk)
      (pos := tpos) (I.ok.hd hcl) ha hb hc its1.toArray its2.toArray
      its3.toArray).stops s _ E (by
        rw [e]
        exact ⟨hz, hI, hO, ⟨h1, p1⟩, ⟨h2, p2⟩, ⟨h3, p3⟩⟩)
      fun h' tk hk htk => ?_
    exact I.turnedL (t' := tk)
      (ch := [n + 5, n + 3, n + 4, n, n + 1, n + 2])
      (fun d o hd q => hk d o (fun z => hd (by
        simp only [List.mem_cons, List.not_mem_nil, or_false] at z ⊢
        rcases z with z | z | z | z | z <;> simp [z])) q) hf
  self := fun A i s Q E st h => wpAny_pyIter_zip st.1 h
def iZip3 (K : PySem.W.Frag) (ta : TA) : TI := fun σ H R =>
  ta σ H fun vs H1 => ∃ a b c xs ys zs, vs = [.ref a, .ref b, .ref c] ∧
    SqT K H1 a xs ∧ SqT K H1 b ys ∧ SqT K H1 c zs ∧ R (ItZ3 K a b c) H1
theorem pi_zip3 {X : Cx} {e1 e2 e3 : Expr} {ta : TA} {p pos tpos : Pos}
    {elts : List Expr} {kk : Nat} (hg : Gl X "zip")
    (hm : X.mg "zip" = none) (ha : PA X [e1, e2, e3] ta)
    (hs : starEach [e1, e2, e3] X.env =
      (false, eval e1 X.env) :: starEach [e2, e3] X.env := by rfl)
    (hpl : (backTo pos (starEach [e2, e3] X.env)).any (·.1) = false := by rfl) :
    PI X (.Tuple elts kk tpos) (.Call (.Name "zip" p) [e1, e2, e3] [] pos)
      (iZip3 X.K ta) := by
  refine ⟨fun pins s σ H R I h => ?_⟩
  refine Call_ (ld_blt I hg hm PyProof.Rows.boot_zip
    (PyProof.Rows.callWith_type1 (thn (ha.run pos pins s σ H _ I h)
      fun us s1 ⟨vs, H1, I1, r1, q1⟩ => ?_) hs hpl))
  obtain ⟨a, b, c, xs, ys, zs, rfl, t1, t2, t3, q⟩ := q1
  obtain ⟨its1, _, p1, _⟩ := I1.tuple t1
  obtain ⟨its2, _, p2, _⟩ := I1.tuple t2
  obtain ⟨its3, _, p3, _⟩ := I1.tuple t3
  have la : a < s1.heap.objs.size := let ⟨_, z, _⟩ := p1; Heap.lt_size z
  have lb : b < s1.heap.objs.size := let ⟨_, z, _⟩ := p2; Heap.lt_size z
  have lc : c < s1.heap.objs.size := let ⟨_, z, _⟩ := p3; Heap.lt_size z
  cases r1 with
  | cons k1 r1 =>
    cases r1 with
    | cons k2 r1 =>
      cases r1 with
      | cons k3 r1 =>
        cases r1
        cases k1
        cases k2
        cases k3
        refine zip_begins3 (begins_tuple a its1.toArray)
          (begins_tuple b its2.toArray) (begins_tuple c its3.toArray)
          p1 p2 p3 fun h' hz hI hO g1 g2 g3 hsz hk =>
          wpAny_pyIter_zip hz ?_
        have I2 : Inv X pins σ H1 { s1 with heap := h' } :=
          I1.kept (t' := s1.toks) hk
        refine ⟨s1.heap.objs.size + 5, _, _, _, H1, rfl, I2,
          turn3 la lb lc, ⟨hz, hI, ⟨_, _, _, hO⟩, ⟨_, g1, rfl, rfl⟩,
            ⟨_, g2, rfl, rfl⟩, ⟨_, g3, rfl, rfl⟩⟩, fun d hd => ?_, q⟩
        have hle : s1.heap.objs.size ≤ d := by
          simp only [List.mem_cons, List.not_mem_nil, or_false] at hd
          rcases hd with z | z | z | z | z | z <;>
            (have z : (_ : Nat) = _ := z; omega)
        exact I1.fpOk hle (I1.hok.fresh hle)
theorem walk_zip3 {K : PySem.W.Frag} {a b c : Addr} {xs ys zs : List V}
    {n : Nat} (hn : n = min (min xs.length ys.length) zs.length) :
    Walk (ItZ3 K a b c) n
      (fun H => SqT K H a xs ∧ SqT K H b ys ∧ SqT K H c zs)
      fun i H v H' => ∃ T x y z, v = .ref T ∧ H T = none ∧
        H' = upd H T (.tup [x, y, z]) ∧ xs[i]? = some x ∧ ys[i]? = some y ∧
        zs[i]? = some z := by
  refine ⟨fun i H hi h => ⟨xs, ys, zs, h.1, h.2.1, h.2.2, by omega⟩,
    fun H h => ⟨xs, ys, zs, h.1, h.2.1, h.2.2, hn⟩, fun i H x H' hi h q => ?_⟩
  obtain ⟨T, x1, y1, z1, rfl, hT, rfl, e1, e2, e3⟩ := q
  exact ⟨T, x1, y1, z1, rfl, hT, rfl, e1 _ h.1, e2 _ h.2.1, e3 _ h.2.2⟩
section
variable {X : Cx}
end
section
variable {K : PySem.W.Frag} {l : Option Addr} {ρ : Ro} {m : Nat}
variable {Φ : Nat → D → Prop} {Θ : Nat → Bool → Prop}
variable {Nx : Nat → Ro → Prop} {Rt : Nat → D → Prop} {ts tb : TS}
variable {ta te tl : TE} {t u : TT} {tA tK : TA}
variable {Z Z' : Addr → Prop} {B H : Hp} {σ : L2.St}
theorem s_while {I : Nat → Nat → Ro → Prop} {q0 : Nat} (h0 : I q0 m ρ)
    (h : ∀ q n ρ', I q n ρ' → TvC K l t ρ' n fun n1 b =>
      if b = true then SvC K l tb ρ' n1
        (fun n2 ρ2 => ∃ q', q' < q ∧ I q' n2 ρ2) Rt
      else Nx n1 ρ') :
    SvC K l (tWhile t tb) ρ m Nx Rt := by
  intro Z B H σ W ok k j
  refine ⟨fun q σ' H' => ∃ n ρ' B', Ok K l Z n B' H' σ' ρ' ∧
    Fr Z B H B' H' ∧ I q n ρ', ⟨q0, m, ρ, B, ok, Fr.refl, h0⟩, ?_⟩
  rintro q σ' H' ⟨n, ρ', B', ok', fr', hI⟩
  refine h q n ρ' hI Z B' H' σ' _ ok' fun b n1 B1 H1 o1 f1 g1 => ?_
  cases b with
  | true =>
    refine ⟨fun σ2 H2 => ∃ q', q' < q ∧ ∃ n ρ' B', Ok K l Z n B' H2 σ2 ρ' ∧
      Fr Z B H B' H2 ∧ I q' n ρ', fun _ _ z => z, ?_⟩
    refine g1 Z B1 H1 σ' _ o1 (fun σ2 ρ2 n2 B2 H2 o2 f2 g2 => ?_)
      fun v d n2 B2 H2 o2 f2 i2 g2 => ?_
    · obtain ⟨q', hq, g⟩ := g2
      exact ⟨q', hq, n2, ρ2, B2, o2, (fr'.trans f1).trans f2, g⟩
    · exact j v d n2 B2 H2 o2 ((fr'.trans f1).trans f2) i2 g2
  | false => exact k σ' ρ' n1 B1 H1 o1 (fr'.trans f1) g1
abbrev g3 (K : PySem.W.Frag) (i j k : Nat) : TG :=
  gTup K 3 (gCons (gName i) (gCons (gName j) (gCons (gName k) gNil)))
theorem isAll3 {vs : List V} {d e f : D} (h : IsAll K B vs [d, e, f]) :
    ∃ v w x, vs = [v, w, x] ∧ Is K B v d ∧ Is K B w e ∧ Is K B x f := by
  cases h with
  | cons h r =>
    obtain ⟨w, x, rfl, h2, h3⟩ := isAll2 r
    exact ⟨_, w, x, rfl, h, h2, h3⟩
theorem lcw_turn3 {A T : Addr} {I : Nat → Nat → List D → Prop} {c i j k : Nat}
    {x y z : V} {H' : Hp} {P : D → D → D → Prop} (hz : ¬ Z A)
    (hi : ρ[i]? = some none) (hj : ρ[j]? = some none)
    (hk : ρ[k]? = some none) (hij : i ≠ j) (hik : i ≠ k) (hjk : j ≠ k)
    (w : LcW K l Z ρ σ B H A I c H') (hT : H' T = none)
    (hx : ∀ B', Same B B' → ∃ d e f, Is K B' x d ∧ Is K B' y e ∧
      Is K B' z f ∧ P d e f) (hc : c < 100000)
    (he : ∀ d e f n acc, P d e f → I c n acc → acc.length = c →
      EvC K l te (((ρ.set i (some (.dat d))).set j (some (.dat e))).set k
        (some (.dat f))) n fun n2 y => I (c + 1) n2 (acc ++ [y])) :
    g3 K i j k (.ref T) (wipe σ [i, j, k]) (upd H' T (.tup [x, y, z]))
      fun σ2 H2 => wipe σ2 [i, j, k] = wipe σ [i, j, k] ∧
        tYes σ2 H2 fun b H3 => if b = true then te σ2 H3 fun y H4 =>
          ∃ acc, H4 A = some (.lst acc) ∧ acc.length < sizeLine ∧
            LcW K l Z ρ σ B H A I (c + 1) (upd H4 A (.lst (acc ++ [y])))
        else LcW K l Z ρ σ B H A I (c + 1) H3 := by
  obtain ⟨n, acc, xs, B', ok, fr, hA, is, hI, hl⟩ := w
  obtain ⟨d, e, f, hd, he', hf, hP⟩ := hx B' fr.sub
  refine ⟨T, [x, y, z], rfl, SqT.of upd_same, rfl, x, [y, z], rfl, y, [z],
    rfl, z, [], rfl, rfl, ?_⟩
  have e1 : (((wipe σ [i, j, k]).set i (some x)).set j (some y)).set k
      (some z) = ((σ.set i (some x)).set j (some y)).set k (some z) := by
    show (((((σ.set k none).set j none).set i none).set i (some x)).set j
      (some y)).set k (some z) = _
    rw [List.set_set, List.set_comm _ _ (Ne.symm hij) (l := σ.set k none),
      List.set_set, List.set_comm _ _ (Ne.symm hik) (l := σ),
      List.set_comm _ _ (Ne.symm hjk), List.set_set]
  have e2 : wipe (((σ.set i (some x)).set j (some y)).set k (some z))
      [i, j, k] = wipe σ [i, j, k] := by
    show (((((σ.set i (some x)).set j (some y)).set k (some z)).set k
      none).set j none).set i none = ((σ.set k none).set j none).set i none
    rw [List.set_set, List.set_comm _ _ hjk, List.set_set,
      List.set_comm _ _ hik, List.set_comm _ _ hij, List.set_set]
  unfold tYes
  dsimp only
  rw [e1, if_pos rfl]
  refine ⟨e2, ?_⟩
  obtain ⟨okJ, frJ⟩ := ok.junk (o := .tup [x, y, z]) hT
  have nTA : A ≠ T := fun z => by rw [z, hT] at hA; cases hA
  refine he d e f n acc hP hI hl _ B' _ _ _ (((okJ.set hd).set he').set hf)
    fun v y2 n2 B2 H2 o2 f2 i2 g2 => ?_
  have hA2 : H2 A = some (.lst xs) := by
    rw [f2.kept A (.inr rfl), upd_ne nTA]
    exact hA
  have hj2 : (ρ.set i (some (.dat d)))[j]? = some none := by
    rw [List.getElem?_set_ne hij]; exact hj
  have hk2 : ((ρ.set i (some (.dat d))).set j (some (.dat e)))[k]? =
      some none := by
    rw [List.getElem?_set_ne hjk, List.getElem?_set_ne hik]; exact hk
  refine ⟨xs, hA2, ?_, n2, acc ++ [y2], xs ++ [v], B2,
    (((o2.unset hk2).unset hj2).unset hi).write (.inr rfl), ?_, upd_same,
    (is.mono f2.sub).append (.cons i2 .nil), g2, by simp [hl]⟩
  · rw [is.length, hl]
    exact Nat.lt_of_lt_of_le hc (by decide)
  · refine ⟨fr.sub.trans f2.sub, fun z hz' => ?_⟩
    rw [upd_ne (fun (e : z = A) => hz (e ▸ hz'))]
    rw [f2.kept z (.inl hz'), frJ.kept z (.inl hz')]
    exact fr.kept z hz'
/-- [e for a, b, c in zip(t, u, v)] of three tuples -/
theorem e_lcZ3 {i j k : Nat} (hi : ρ[i]? = some none)
    (hj : ρ[j]? = some none) (hk : ρ[k]? = some none) (hij : i ≠ j)
    (hik : i ≠ k) (hjk : j ≠ k)
    (h : AvC K l tA ρ m fun m1 as => ∃ xs ys zs,
      as = [.tup xs, .tup ys, .tup zs] ∧ xs.length ≤ 50000 ∧
      ∃ I : Nat → Nat → List D → Prop, I 0 m1 [] ∧
      (∀ c n acc d e f, xs[c]? = some d → ys[c]? = some e →
        zs[c]? = some f → I c n acc → acc.length = c →
        EvC K l te (((ρ.set i (some (.dat d))).set j (some (.dat e))).set k
          (some (.dat f))) n fun n2 y => I (c + 1) n2 (acc ++ [y])) ∧
      ∀ n acc, acc.length = min (min xs.length ys.length) zs.length →
        I (min (min xs.length ys.length) zs.length) n acc → Φ n (.lst acc)) :
    EvC K l (tLc (iZip3 K tA) (g3 K i j k) tYes te [i, j, k]) ρ m Φ := by
  intro Z B H σ Q ok kk
  refine h Z B H σ _ ok fun vs as m1 B1 H1 o1 f1 i1 g1 => ?_
  obtain ⟨xs, ys, zs, rfl, hl, I, h0, hs, hd⟩ := g1
  obtain ⟨v, w, x, rfl, z1, z2, z3⟩ := isAll3 i1
  cases z1 with
  | @tup a us _ hu r1 =>
    cases z2 with
    | @tup b ws _ hw r2 =>
      cases z3 with
      | @tup c qs _ hq r3 =>
        refine ⟨a, b, c, us, ws, qs, rfl, sameT o1.sub hu, sameT o1.sub hw,
          sameT o1.sub hq, fun A hA => ?_⟩
        have hz : ¬ Z A := fun z => (o1.zs A z).1 hA
        refine lc_it (walk_zip3 (xs := us) (ys := ws) (zs := qs) rfl)
          (LcW K l Z ρ σ B1 H1 A I) (lcw_start o1 hA h0)
          (fun c H' _ w => ?_) (fun c x H' H'' hc w q => ?_) fun H' w => ?_
        · obtain ⟨n, acc, zs, B', ok', fr', _⟩ := w
          exact ⟨sameT ok'.sub (sameT fr'.sub hu),
            sameT ok'.sub (sameT fr'.sub hw),
            sameT ok'.sub (sameT fr'.sub hq)⟩
        · obtain ⟨T, x1, y1, w1, rfl, hT, rfl, e1, e2, e3⟩ := q
          refine lcw_turn3 (P := fun d e f => xs[c]? = some d ∧
            ys[c]? = some e ∧ zs[c]? = some f)
            hz hi hj hk hij hik hjk w hT (fun B' sb => ?_)
            (by rw [r1.length] at hc; omega)
            fun d e f n acc p => hs c n acc d e f p.1 p.2.1 p.2.2
          obtain ⟨d, q1, p1⟩ := (r1.mono sb).get e1
          obtain ⟨e, q2, p2⟩ := (r2.mono sb).get e2
          obtain ⟨f, q3, p3⟩ := (r3.mono sb).get e3
          exact ⟨d, e, f, p1, p2, p3, q1, q2, q3⟩
        · rw [r1.length, r2.length, r3.length] at w
          exact lcw_end hz w hd fun v d m' B2 H2 o2 f2 i2 g2 =>
            kk v d m' B2 H2 o2 (f1.trans f2) i2 g2
end
end Wt

namespace Wt
open PySem PySem.Spec PyProof.Rows L2
mutual
def D.numB : D → Bool
  | .int _ => true
  | .non => true
  | .lst xs => D.nums xs
  | .tup xs => D.nums xs
  | _ => false
def D.nums : List D → Bool
  | [] => true
  | x :: xs => D.numB x && D.nums xs
end
mutual
theorem eqv_iff : ∀ (a b : D), a.numB = true → b.numB = true →
    (PyData.eqv a.py b.py = true ↔ a = b)
  | .int i, .int j, _, _ => by simp [D.py, PyData.eqv]
  | .non, .non, _, _ => by simp [D.py, PyData.eqv]
  | .lst xs, .lst ys, ha, hb => by
    rw [D.numB] at ha hb
    rw [D.py, D.py, PyData.eqv, eqvs_iff xs ys ha hb, D.lst.injEq]
  | .tup xs, .tup ys, ha, hb => by
    rw [D.numB] at ha hb
    rw [D.py, D.py, PyData.eqv, eqvs_iff xs ys ha hb, D.tup.injEq]
  | .int _, .non, _, _ | .int _, .lst _, _, _ | .int _, .tup _, _, _
  | .non, .int _, _, _ | .non, .lst _, _, _ | .non, .tup _, _, _
  | .lst _, .int _, _, _ | .lst _, .non, _, _ | .lst _, .tup _, _, _
  | .tup _, .int _, _, _ | .tup _, .non, _, _ | .tup _, .lst _, _, _ => by
    simp [D.py, PyData.eqv]
  | .bl _, _, h, _ | .str _, _, h, _ | .dic _, _, h, _ | .ins _ _ _, _, h, _
  | .scr _, _, h, _ | .dct _ _, _, h, _ => by simp [D.numB] at h
  | .int _, .bl _, _, h | .int _, .str _, _, h | .int _, .dic _, _, h
  | .int _, .ins _ _ _, _, h | .int _, .scr _, _, h | .int _, .dct _ _, _, h
  | .non, .bl _, _, h | .non, .str _, _, h | .non, .dic _, _, h
  | .non, .ins _ _ _, _, h | .non, .scr _, _, h | .non, .dct _ _, _, h
  | .lst _, .bl _, _, h | .lst _, .str _, _, h | .lst _, .dic _, _, h
  | .lst _, .ins _ _ _, _, h | .lst _, .scr _, _, h | .lst _, .dct _ _, _, h
  | .tup _, .bl _, _, h | .tup _, .str _, _, h | .tup _, .dic _, _, h
  | .tup _, .ins _ _ _, _, h | .tup _, .scr _, _, h | .tup _, .dct _ _, _, h => by simp [D.numB] at h
theorem eqvs_iff : ∀ (a b : List D), D.nums a = true → D.nums b = true →
    (PyData.eqvAll (D.pys a) (D.pys b) = true ↔ a = b)
  | [], [], _, _ => by simp [D.pys, PyData.eqvAll]
  | [], y :: ys, _, _ => by simp [D.pys, PyData.eqvAll]
  | x :: xs, [], _, _ => by simp [D.pys, PyData.eqvAll]
  | x :: xs, y :: ys, ha, hb => by
    rw [D.nums, Bool.and_eq_true] at ha hb
    rw [D.pys, D.pys, PyData.eqvAll, Bool.and_eq_true,
      eqv_iff x y ha.1 hb.1, eqvs_iff xs ys ha.2 hb.2, List.cons.injEq]
end
theorem flats_all (xs : List D) : D.nums xs = xs.all D.numB := by
  induction xs with
  | nil => rfl
  | cons x r ih => rw [D.nums, ih]; rfl
mutual
theorem flat_noDic : ∀ d : D, d.numB = true → d.noDic = true
  | .int _, _ => rfl
  | .non, _ => rfl
  | .lst xs, h => by rw [D.numB] at h; rw [D.noDic]; exact flats_noDic xs h
  | .tup xs, h => by rw [D.numB] at h; rw [D.noDic]; exact flats_noDic xs h
  | .bl _, h | .str _, h | .dic _, h | .ins _ _ _, h | .scr _, h | .dct _ _, h => by
    simp [D.numB] at h
theorem flats_noDic : ∀ xs : List D, D.nums xs = true → D.noDics xs = true
  | [], _ => rfl
  | x :: xs, h => by
    rw [D.nums, Bool.and_eq_true] at h
    rw [D.noDics, flat_noDic x h.1, flats_noDic xs h.2]; rfl
end
mutual
theorem flat_lay : ∀ d : D, d.numB = true → d.py.canLay0 = true
  | .int _, _ => by simp [D.py, PyData.canLay0]
  | .non, _ => by simp [D.py, PyData.canLay0]
  | .lst xs, h => by
    rw [D.numB] at h; rw [D.py, PyData.canLay0]; exact flats_lay xs h
  | .tup xs, h => by
    rw [D.numB] at h; rw [D.py, PyData.canLay0]; exact flats_lay xs h
  | .bl _, h | .str _, h | .dic _, h | .ins _ _ _, h | .scr _, h | .dct _ _, h => by
    simp [D.numB] at h
theorem flats_lay : ∀ xs : List D, D.nums xs = true →
    PyData.canLayAll0 (D.pys xs) = true
  | [], _ => by simp [D.pys, PyData.canLayAll0]
  | x :: xs, h => by
    rw [D.nums, Bool.and_eq_true] at h
    rw [D.pys, PyData.canLayAll0, flat_lay x h.1, flats_lay xs h.2]; rfl
end
mutual
theorem flat_noDict : ∀ d : D, d.numB = true → d.py.hasDict = false
  | .int _, _ => by simp [D.py, PyData.hasDict]
  | .non, _ => by simp [D.py, PyData.hasDict]
  | .lst xs, h => by
    rw [D.numB] at h; rw [D.py, PyData.hasDict]; exact flats_noDict xs h
  | .tup xs, h => by
    rw [D.numB] at h; rw [D.py, PyData.hasDict]; exact flats_noDict xs h
  | .bl _, h | .str _, h | .dic _, h | .ins _ _ _, h | .scr _, h | .dct _ _, h => by
    simp [D.numB] at h
theorem flats_noDict : ∀ xs : List D, D.nums xs = true →
    PyData.hasDictAll (D.pys xs) = false
  | [], _ => by simp [D.pys, PyData.hasDictAll]
  | x :: xs, h => by
    rw [D.nums, Bool.and_eq_true] at h
    rw [D.pys, PyData.hasDictAll, flat_noDict x h.1, flats_noDict xs h.2]; rfl
end
/-- data of whole numbers, at most so deep and so much -/
structure Num (k w : Nat) (d : D) : Prop extends Itm k w d where
  flat : d.numB = true
section
variable {k w k' w' : Nat} {d e : D} {xs : List D}
theorem Num.up (h : Num k w d) (hk : k ≤ k') (hw : w ≤ w') : Num k' w' d :=
  ⟨h.toItm.mono hk hw, h.flat⟩
theorem Num.shows (h : Num k w d) (hk : k ≤ 100) (hw : w ≤ 200000) :
    Shows d :=
  h.toItm.shows hk hw fun z => by rw [flat_noDict d h.flat] at z; cases z
theorem Num.eqs (h : Num k w d) (hk : k ≤ 64) : Eqs d :=
  ⟨flat_noDic d h.flat, by
    unfold SeqAt.shaped
    rw [flat_lay d h.flat, decide_eq_true (Nat.le_trans h.deep hk)]; rfl⟩
theorem Num.tup (h : ∀ x ∈ xs, Num k w x) :
    Num (k + 1) ((w + 1) * xs.length) (.tup xs) :=
  ⟨Itm.tup fun x hx => (h x hx).toItm, by
    rw [D.numB, flats_all, List.all_eq_true]
    exact fun x hx => (h x hx).flat⟩
theorem Num.lst (h : ∀ x ∈ xs, Num k w x) :
    Num (k + 1) ((w + 1) * xs.length) (.lst xs) :=
  ⟨Itm.lst fun x hx => (h x hx).toItm, by
    rw [D.numB, flats_all, List.all_eq_true]
    exact fun x hx => (h x hx).flat⟩
theorem Num.eqv (h : Num k w d) (h' : Num k' w' e) :
    (PyData.eqv d.py e.py = true ↔ d = e) := eqv_iff d e h.flat h'.flat
theorem Num.same (h : Num k w d) : PyData.eqv d.py d.py = true :=
  (eqv_iff d d h.flat h.flat).mpr rfl
theorem Num.other (h : Num k w d) (h' : Num k' w' e) (n : d ≠ e) :
    PyData.eqv d.py e.py = false := by
  cases q : PyData.eqv d.py e.py with
  | false => rfl
  | true => exact absurd ((h.eqv h').mp q) n
end
section
variable {K : PySem.W.Frag} {l : Option Addr} {ρ : Ro} {m : Nat}
theorem a_imp {tA : TA} {Ψ Ψ' : Nat → List D → Prop}
    (h : AvC K l tA ρ m Ψ) (q : ∀ n d, Ψ n d → Ψ' n d) :
    AvC K l tA ρ m Ψ' :=
  fun Z B H σ Q ok k => h Z B H σ Q ok fun v d n B2 H2 a b c e =>
    k v d n B2 H2 a b c (q n d e)
theorem t_imp {t : TT} {Θ Θ' : Nat → Bool → Prop}
    (h : TvC K l t ρ m Θ) (q : ∀ n b, Θ n b → Θ' n b) :
    TvC K l t ρ m Θ' :=
  fun Z B H σ Q ok k => h Z B H σ Q ok fun b n B2 H2 a c e =>
    k b n B2 H2 a c (q n b e)
theorem s_imp {ts : TS} {Nx Nx' : Nat → Ro → Prop} {Rt Rt' : Nat → D → Prop}
    (h : SvC K l ts ρ m Nx Rt) (q : ∀ n r, Nx n r → Nx' n r)
    (q2 : ∀ n d, Rt n d → Rt' n d) : SvC K l ts ρ m Nx' Rt' :=
  fun Z B H σ W ok k j => h Z B H σ W ok
    (fun σ2 ρ2 m2 B2 H2 o2 f2 g2 => k σ2 ρ2 m2 B2 H2 o2 f2 (q m2 ρ2 g2))
    fun v d m2 B2 H2 o2 f2 i2 g2 => j v d m2 B2 H2 o2 f2 i2 (q2 m2 d g2)
end
end Wt

namespace Wt
open PySem PySem.Spec PyProof.Rows L2
/-- what a new object's own __init__ promises: the fields are what was handed in -/
def SpI (K : PySem.W.Frag) (C : Addr) (n1 n2 : Str) (pre : List D → Prop) :
    Sp := fun vs H Q _ => ∃ x dx B v1 v2 d1 d2, vs = [.ref x, v1, v2] ∧
  H x = some (.ins C dx []) ∧ Same B H ∧ B x = none ∧ Is K B v1 d1 ∧
  Is K B v2 d2 ∧ pre [d1, d2] ∧
  ∀ B2 H2, Same B B2 → Same B2 H2 →
    H2 x = some (.ins C dx [(n1, v1), (n2, v2)]) →
    (∀ b o, b ≠ x → H b = some o → H2 b = some o) →
    (∀ a, H a ≠ none → B a = none → B2 a = none) → Q .non H2
structure Own2 (K : PySem.W.Frag) (C : Addr) (n1 n2 : Str) : Prop where
  cls : Cls K C
  a1 : NoAttr K C n1
  a2 : NoAttr K C n2
section
variable {K : PySem.W.Frag} {l : Option Addr} {ρ : Ro} {m : Nat}
variable {Φ : Nat → D → Prop} {Θ : Nat → Bool → Prop}
variable {ta te tl : TE} {t u : TT} {tA : TA} {C : Addr} {n1 n2 : Str}
variable {Z : Addr → Prop} {B H : Hp} {σ : L2.St}
theorem body_I {pre : List D → Prop} {vs : List V} {Q : VK} {E : XK}
    {N : List Str} (hN : N.length = 3) (c : Own2 K C n1 n2) (hne : n1 ≠ n2)
    (h : SpI K C n1 n2 pre vs H Q E)
    (hb : ∀ d1 d2, pre [d1, d2] →
      TvC K none t [none, some (.dat d1), some (.dat d2)] 0
        (fun _ b => b = false) ∧
      ∀ n, TvC K none u [none, some (.dat d1), some (.dat d2)] n
        (fun _ b => b = false)) :
    tSeq (tIfS t tNever tNext) (tSeq (tIfS u tNever tNext)
      (tSeq (sFld K (tVar 0) (tVar 1) n1) (sFld K (tVar 0) (tVar 2) n2)))
      { nx := fun _ H' => Q .non H', rt := Q } (start N vs) H := by
  obtain ⟨x, dx, B, v1, v2, d1, d2, rfl, hx, sb, hBx, i1, i2, hp, k⟩ := h
  obtain ⟨p1, p2⟩ := hb d1 d2 hp
  have es : start N [.ref x, v1, v2] = [some (.ref x), some v1, some v2] := by
    unfold L2.start
    simp [hN]
  rw [es]
  have ok : Ok K none (fun a => H a ≠ none ∧ B a = none) 0 B H
      [some (.ref x), some v1, some v2]
      [none, some (.dat d1), some (.dat d2)] := by
    refine ⟨⟨sb, fun a e => (nomatch e), fun z h => ⟨h.1, h.2, nofun⟩⟩, rfl,
      fun i s e => ?_, fun i j ds1 es a n po p2 e1 => ?_⟩
    · match i, e with
      | 1, e => cases e; exact ⟨_, rfl, i1⟩
      | 2, e => cases e; exact ⟨_, rfl, i2⟩
    · match i, e1 with
      | 1, e => cases e; cases po
      | 2, e => cases e; cases po
  have zx : H x ≠ none ∧ B x = none := ⟨by rw [hx]; exact nofun, hBx⟩
  refine p1 _ B H _ _ ok fun b m1 B1 H1 o1 f1 e1 => ?_
  subst e1
  refine p2 m1 _ B1 H1 _ _ o1 fun b m2 B2 H2 o2 f2 e2 => ?_
  subst e2
  have fr := f1.trans f2
  have hx2 : H2 x = some (.ins C dx []) := (fr.kept x zx).trans hx
  have zb := (o2.zs x zx).2.1
  refine ⟨v1, rfl, .ref x, rfl, x, C, dx, [], rfl, hx2, c.cls, c.a1, by simp, ?_⟩
  refine ⟨v2, rfl, .ref x, rfl, x, C, dx, _, rfl, upd_same, c.cls, c.a2,
    by simp [putF], ?_⟩
  refine k B2 _ fr.sub (fun b o e => ?_) ?_ (fun b o n e => ?_)
    fun a h1 h2 => (o2.zs a ⟨h1, h2⟩).2.1
  · have n : b ≠ x := fun z => by subst z; rw [zb] at e; cases e
    rw [upd_ne n, upd_ne n]
    exact o2.sub b o e
  · rw [upd_same]
    simp [putF, hne]
  · rw [upd_ne n, upd_ne n]
    cases q : B b with
    | none => rw [fr.kept b ⟨by rw [e]; exact nofun, q⟩]; exact e
    | some y =>
      rw [sb b y q] at e
      cases e
      exact o2.sub b _ (fr.sub b _ q)
/-- C(a, b) -/
theorem e_make {pre : List D → Prop} {E : XK}
    (h : AvC K l tA ρ m fun m1 ds => ∃ d1 d2, ds = [d1, d2] ∧
      pre [d1, d2] ∧ Φ m1 (.ins C [n1, n2] [d1, d2])) :
    EvC K l (tMake C (SpI K C n1 n2 pre) [] E tA) ρ m Φ := by
  intro Z B H σ Q ok k
  refine h Z B H σ _ ok fun vs ds m1 B1 H1 o1 f1 i1 g1 => ?_
  obtain ⟨d1, d2, rfl, hp, q⟩ := g1
  obtain ⟨v1, v2, rfl, a1, a2⟩ := isAll2 i1
  intro x dx hx hdx hne
  obtain ⟨oJ, fJ⟩ := o1.junk (o := .own x) hdx
  have hx' : upd H1 dx (.own x) x = none := by
    rw [upd_ne (fun z => hne z.symm)]; exact hx
  have oA := oJ.aside (o := .ins C dx []) hx'
  have hz : ¬ Z x := fun z => (o1.zs x z).1 hx
  have hBx : B1 x = none := o1.same0 hx
  refine ⟨x, dx, B1, v1, v2, d1, d2, rfl, upd_same, oA.sub, hBx, a1, a2, hp,
    fun B2 H2 s1 s2 e2 kp fr => ⟨rfl, ?_⟩⟩
  have oW := oA.write (p := x) (o := .ins C dx [(n1, v1), (n2, v2)]) (.inr rfl)
  have hst : Ok K l (fun a => Z a ∨ a = x) m1 B2 H2 σ ρ ∧
      Fr (fun a => Z a ∨ a = x) B1 (upd (upd (upd H1 dx (.own x)) x (.ins C dx []))
        x (.ins C dx [(n1, v1), (n2, v2)])) B2 H2 := by
    refine oW.step (B2 := B2) (H2 := H2) (m' := m1) s1 s2
      (fun a e => ?_) (fun a o n e => ?_) (fun a n e => ?_)
    · obtain ⟨g, s, cc, e1, r⟩ := (oA.hand a e).1
      have n : a ≠ x := fun w => by
        subst w
        exact (o1.hand a e).1.some hx
      exact ⟨g, s, cc, kp a _ n e1, r⟩
    · by_cases w : a = x
      · subst w
        rw [upd_same] at e
        cases e
        exact e2
      · rw [upd_ne w] at e
        exact kp a o w e
    · by_cases w : a = x
      · subst w
        exact fr a (by rw [upd_same]; exact nofun) e
      · rw [upd_ne w] at n
        exact fr a n e
  obtain ⟨oS, fS⟩ := hst
  have oT := oS.thaw e2 hz
  have sm : Same B2 (upd B2 x (.ins C dx [(n1, v1), (n2, v2)])) :=
    same_new (oS.zs x (.inr rfl)).2.1
  refine k (.ref x) _ m1 _ H2 oT (f1.trans ⟨s1.trans sm, fun z hz' => ?_⟩)
    (.ins (dx := dx) (xs := [v1, v2]) upd_same
      (((IsAll.cons a1 (.cons a2 .nil)).mono s1).mono sm)) q
  rw [fS.kept z (.inl hz')]
  rw [upd_ne (fun (w : z = x) => hz (w ▸ hz')),
    upd_ne (fun (w : z = x) => hz (w ▸ hz'))]
  exact fJ.kept z hz'
theorem e_fld1 (c : Own2 K C n1 n2)
    (h : EvC K l ta ρ m fun m1 x => ∃ d1 d2, x = .ins C [n1, n2] [d1, d2] ∧
      Φ m1 d1) : EvC K l (tFld K ta n1) ρ m Φ := by
  intro Z B H σ Q ok k
  refine h Z B H σ _ ok fun v x m1 B1 H1 o1 f1 i1 g1 => ?_
  obtain ⟨d1, d2, rfl, q⟩ := g1
  cases i1 with
  | @ins a dx _ _ xs _ ha is =>
    obtain ⟨v1, v2, rfl, a1, a2⟩ := isAll2 is
    refine ⟨a, C, dx, _, v1, rfl, o1.sub _ _ ha, c.cls, c.a1, ?_,
      k _ _ m1 B1 H1 o1 f1 a1 q⟩
    simp
theorem e_fld2 (c : Own2 K C n1 n2) (hne : n1 ≠ n2)
    (h : EvC K l ta ρ m fun m1 x => ∃ d1 d2, x = .ins C [n1, n2] [d1, d2] ∧
      Φ m1 d2) : EvC K l (tFld K ta n2) ρ m Φ := by
  intro Z B H σ Q ok k
  refine h Z B H σ _ ok fun v x m1 B1 H1 o1 f1 i1 g1 => ?_
  obtain ⟨d1, d2, rfl, q⟩ := g1
  cases i1 with
  | @ins a dx _ _ xs _ ha is =>
    obtain ⟨v1, v2, rfl, a1, a2⟩ := isAll2 is
    refine ⟨a, C, dx, _, v2, rfl, o1.sub _ _ ha, c.cls, c.a2, ?_,
      k _ _ m1 B1 H1 o1 f1 a2 q⟩
    simp [List.lookup, beq_eq_false_iff_ne.mpr (Ne.symm hne)]
/-- o.m() that promises as a function does -/
theorem e_meth0 {pre : List D → Prop} {F : List D → D} {E : XK} {me : Str}
    (hm1 : me ≠ n1) (hm2 : me ≠ n2)
    (h : EvC K l ta ρ m fun m1 x => ∃ d1 d2, x = .ins C [n1, n2] [d1, d2] ∧
      pre [x] ∧ Φ m1 (F [x])) :
    EvC K l (tMeth C me (SpP K pre F) [] E ta tNil) ρ m Φ := by
  intro Z B H σ Q ok k
  refine h Z B H σ _ ok fun v x m1 B1 H1 o1 f1 i1 g1 => ?_
  obtain ⟨d1, d2, rfl, hp, q⟩ := g1
  have i1' := i1
  cases i1 with
  | @ins a dx _ _ xs _ ha is =>
    obtain ⟨v1, v2, rfl, a1, a2⟩ := isAll2 is
    refine ⟨a, dx, _, rfl, o1.sub _ _ ha, ?_, ?_⟩
    · simp [List.lookup, beq_eq_false_iff_ne.mpr hm1,
        beq_eq_false_iff_ne.mpr hm2]
    · exact v_P (E := E) hp q Z B1 H1 σ [.ref a] Q o1 (.cons i1' .nil)
        fun v d m2 B2 H2 o2 f2 i2 g2 => k v d m2 B2 H2 o2 (f1.trans f2) i2 g2
end
section
variable {X : Cx} {K : PySem.W.Frag} {e o value : Expr} {f : Str}
variable {pos pos' : Pos} {ta tv : TE}
theorem pe_fldK (hK : X.K = K) (he : PE X e ta)
    (hb : attributeBase e f X.env (eval e X.env) = eval e X.env) :
    PE X (.Attribute e f pos) (tFld K ta f) := by
  subst hK
  exact pe_fld he hb
theorem ps_fldK (hK : X.K = K) (ha : PE X o ta) (hv : PE X value tv)
    (hs : swapsWith value (some (.Attribute o f pos')) pos.line X.env =
      pure false) :
    PS X (.Assign [.Attribute o f pos'] value pos) (sFld K ta tv f) := by
  subst hK
  exact ps_fld ha hv hs
end
section
variable {K : PySem.W.Frag} {l : Option Addr} {ρ : Ro} {m : Nat}
variable {Nx : Nat → Ro → Prop} {Rt : Nat → D → Prop} {tA : TA} {te : TE}
theorem s_par3 {i j k : Nat} (h : AvC K l tA ρ m fun m1 ds => ∃ x y z,
      ds = [x, y, z] ∧ Nx m1 (((ρ.set i (some (.dat x))).set j
        (some (.dat y))).set k (some (.dat z)))) :
    SvC K l (tPar3 i j k tA) ρ m Nx Rt := by
  intro Z B H σ W ok kk _
  refine h Z B H σ _ ok fun vs ds m1 B1 H1 o1 f1 i1 g1 => ?_
  obtain ⟨x, y, z, rfl, q⟩ := g1
  obtain ⟨u, v, w, rfl, h1, h2, h3⟩ := isAll3 i1
  exact ⟨u, v, w, rfl, kk _ _ m1 B1 H1 (((o1.set h1).set h2).set h3) f1 q⟩
/-- a, b = [], x where a will grow -/
theorem s_parOwn {i j : Nat} (hij : i ≠ j)
    (h : AvC K l tA ρ m fun m1 ds => ∃ y, ds = [y] ∧
      Nx m1 ((ρ.set i (some (.own []))).set j (some (.dat y)))) :
    SvC K l (tPar i j (tCons (tLst tNil) tA)) ρ m Nx Rt := by
  intro Z B H σ W ok kk _
  refine ⟨Nat.zero_le _, fun p hp => ?_⟩
  have hz : ¬ Z p := fun z => (ok.zs p z).1 hp
  refine h _ B _ σ _ (ok.aside (o := .lst []) hp)
    fun vs ds m1 B1 H1 o1 f1 i1 g1 => ?_
  obtain ⟨y, rfl, q⟩ := g1
  obtain ⟨v, rfl, h2⟩ := isAll1 i1
  have hp1 : H1 p = some (.lst []) := (f1.kept p (.inr rfl)).trans upd_same
  have o2 := ((o1.set (i := j) h2).setOwn (i := i) hz hp1 .nil)
  rw [List.set_comm _ _ (Ne.symm hij), List.set_comm _ _ (Ne.symm hij) (l := ρ)] at o2
  refine ⟨.ref p, v, rfl, kk _ _ m1 B1 H1 o2 ?_ q⟩
  exact ⟨f1.sub, fun z hz' => (f1.kept z (.inl hz')).trans
    (upd_ne fun e => hz (e ▸ hz'))⟩
end
section
variable {K : PySem.W.Frag} {l : Option Addr} {ρ : Ro} {m : Nat}
variable {Nx : Nat → Ro → Prop} {Rt : Nat → D → Prop} {tA : TA} {te : TE}
/-- a, b = x -/
theorem s_unp2 {i j : Nat} (h : EvC K l te ρ m fun m1 d => ∃ x y,
      d = .tup [x, y] ∧ Nx m1 ((ρ.set i (some (.dat x))).set j
        (some (.dat y)))) :
    SvC K l (tAsg te (g2 K i j)) ρ m Nx Rt := by
  intro Z B H σ W ok kk _
  refine h Z B H σ _ ok fun v d m1 B1 H1 o1 f1 i1 g1 => ?_
  obtain ⟨x, y, rfl, q⟩ := g1
  cases i1 with
  | @tup a us _ hu r =>
    obtain ⟨u, w, rfl, h1, h2⟩ := isAll2 r
    exact ⟨a, [u, w], rfl, sameT o1.sub hu, rfl, u, [w], rfl, w, [], rfl, rfl,
      kk _ _ m1 B1 H1 ((o1.set h1).set h2) f1 q⟩
end
end Wt

namespace Wt
open PySem PySem.Spec PyProof.Rows L2
section
variable {K : PySem.W.Frag} {l : Option Addr} {ρ : Ro} {m : Nat}
variable {Φ : Nat → D → Prop} {Θ : Nat → Bool → Prop}
variable {Nx : Nat → Ro → Prop} {Rt : Nat → D → Prop} {ts tb : TS}
variable {ta te tl : TE} {t u : TT} {tA : TA}
variable {Z : Addr → Prop} {B H : Hp} {σ : L2.St}
/-- a turn of a comprehension over rows of pairs -/
theorem lcw_pair {A : Addr} {I : Nat → Nat → List D → Prop} {c i j : Nat}
    {x : V} {H' : Hp} {P : D → D → Prop} (hz : ¬ Z A)
    (hi : ρ[i]? = some none) (hj : ρ[j]? = some none) (hij : i ≠ j)
    (w : LcW K l Z ρ σ B H A I c H')
    (hx : ∀ B', Same B B' → ∃ d e, Is K B' x (.tup [d, e]) ∧ P d e)
    (hc : c < 100000)
    (he : ∀ d e n acc, P d e → I c n acc → acc.length = c →
      EvC K l te ((ρ.set i (some (.dat d))).set j (some (.dat e))) n
        fun n2 y => I (c + 1) n2 (acc ++ [y])) :
    g2 K i j x (wipe σ [i, j]) H' fun σ2 H2 =>
      wipe σ2 [i, j] = wipe σ [i, j] ∧ tYes σ2 H2 fun b H3 =>
        if b = true then te σ2 H3 fun y H4 =>
          ∃ acc, H4 A = some (.lst acc) ∧ acc.length < sizeLine ∧
            LcW K l Z ρ σ B H A I (c + 1) (upd H4 A (.lst (acc ++ [y])))
        else LcW K l Z ρ σ B H A I (c + 1) H3 := by
  obtain ⟨n, acc, xs, B', ok, fr, hA, is, hI, hl⟩ := w
  obtain ⟨d, e, hd, hP⟩ := hx B' fr.sub
  cases hd with
  | @tup T us _ hu r =>
    obtain ⟨u, v, rfl, p1, p2⟩ := isAll2 r
    refine ⟨T, [u, v], rfl, sameT ok.sub hu, rfl, u, [v], rfl, v, [], rfl,
      rfl, ?_⟩
    have e1 : ((wipe σ [i, j]).set i (some u)).set j (some v) =
        (σ.set i (some u)).set j (some v) := by
      show ((((σ.set j none).set i none).set i (some u)).set j (some v)) = _
      rw [List.set_set, List.set_comm _ _ hij, List.set_set,
        List.set_comm _ _ (Ne.symm hij)]
    have e2 : wipe ((σ.set i (some u)).set j (some v)) [i, j] =
        wipe σ [i, j] := by
      show (((σ.set i (some u)).set j (some v)).set j none).set i none =
        (σ.set j none).set i none
      rw [List.set_set, List.set_comm _ _ hij, List.set_set]
    unfold tYes
    dsimp only
    rw [e1, if_pos rfl]
    refine ⟨e2, ?_⟩
    refine he d e n acc hP hI hl _ B' _ _ _ ((ok.set p1).set p2)
      fun v y2 n2 B2 H2 o2 f2 i2 g2 => ?_
    have hA2 : H2 A = some (.lst xs) := (f2.kept A (.inr rfl)).trans hA
    have hj2 : (ρ.set i (some (.dat d)))[j]? = some none := by
      rw [List.getElem?_set_ne hij]; exact hj
    refine ⟨xs, hA2, ?_, n2, acc ++ [y2], xs ++ [v], B2,
      ((o2.unset hj2).unset hi).write (.inr rfl), ?_, upd_same,
      (is.mono f2.sub).append (.cons i2 .nil), g2, by simp [hl]⟩
    · rw [is.length, hl]
      exact Nat.lt_of_lt_of_le hc (by decide)
    · refine ⟨fr.sub.trans f2.sub, fun z hz' => ?_⟩
      rw [upd_ne (fun (e : z = A) => hz (e ▸ hz'))]
      exact (f2.kept z (.inl hz')).trans (fr.kept z hz')
def D.isNon : D → Bool
  | .non => true
  | _ => false
theorem v_isN {d : D} (q : Φ m (.bl d.isNon)) :
    VvC K l ρ (fun vs H Q => ∃ x y, vs = [x, y] ∧ rIsN x y H Q)
      [d, .non] m Φ := by
  intro Z B H σ vs Q ok is k
  obtain ⟨v, w, rfl, h, h2⟩ := isAll2 is
  cases h2
  refine ⟨_, _, rfl, rfl, k _ _ m B H ok Fr.refl (.bl _) ?_⟩
  have e : decide (v = V.non) = d.isNon := by
    cases h <;> rfl
  rw [e]
  exact q
end
end Wt

namespace Wt
open PySem PySem.Spec PyProof.Rows L2
theorem r_map0 {α β : Type} {f : α → β} : List.map f [] = [] := rfl
theorem r_map1 {α β : Type} {f : α → β} {a : α} {l : List α} :
    List.map f (a :: l) = f a :: List.map f l := rfl
theorem r_app0 {α : Type} {l : List α} : [] ++ l = l := rfl
theorem r_app1 {α : Type} {a : α} {k l : List α} :
    (a :: k) ++ l = a :: (k ++ l) := rfl
theorem r_set0 {α : Type} {a x : α} {l : List α} :
    (a :: l).set 0 x = x :: l := rfl
theorem r_set1 {α : Type} {a x : α} {l : List α} {n : Nat} :
    (a :: l).set (n + 1) x = a :: l.set n x := rfl
theorem r_rep0 {α : Type} {x : α} : List.replicate 0 x = [] := rfl
theorem r_rep1 {α : Type} {x : α} {n : Nat} :
    List.replicate (n + 1) x = x :: List.replicate n x := rfl
/-- some slots told anew -/
def put (ρ : Ro) : List Nat → List (Option Sl) → Ro
  | i :: is, x :: xs => put (ρ.set i x) is xs
  | _, _ => ρ
theorem dmap_of {α : Type} {g : α → D} : ∀ {ys : List D}
    {P : Nat → α → Prop},
    (∀ (i : Nat) y, ys[i]? = some y → ∃ x, y = g x ∧ P i x) →
    ∃ xs : List α, ys = xs.map g ∧ ∀ (i : Nat) x, xs[i]? = some x → P i x
  | [], _, _ => ⟨[], rfl, fun i x h => by simp at h⟩
  | y :: ys, P, h => by
    obtain ⟨x, rfl, hx⟩ := h 0 y rfl
    obtain ⟨xs, rfl, hs⟩ := dmap_of (ys := ys) (P := fun i => P (i + 1))
      fun i y e => h (i + 1) y (by rw [List.getElem?_cons_succ]; exact e)
    refine ⟨x :: xs, rfl, fun i z e => ?_⟩
    cases i with
    | zero => cases e; exact hx
    | succ i => rw [List.getElem?_cons_succ] at e; exact hs i z e
theorem take_snoc' {α : Type} {xs : List α} {c : Nat} {x : α}
    (h : xs[c]? = some x) : xs.take (c + 1) = xs.take c ++ [x] := by
  rw [List.take_add_one, h]; rfl
section
variable {K : PySem.W.Frag} {l : Option Addr} {ρ : Ro} {m : Nat}
variable {Φ : Nat → D → Prop} {Θ : Nat → Bool → Prop}
variable {Nx : Nat → Ro → Prop} {Rt : Nat → D → Prop} {ts tb : TS}
variable {ta te tl : TE} {t u : TT} {tA tK : TA}
theorem e_lcRf {j : Nat} (hj : ρ[j]? = some none)
    (h : AvC K l tA ρ m fun m1 x => ∃ z : Int, x = [.int z] ∧
      ∃ (c : Nat) (f : Nat → D), z = c ∧ c ≤ 50000 ∧
      (∀ i : Nat, i < c → EvC K l te (ρ.set j (some (.dat (.int i)))) m1
        fun n2 y => n2 = m1 ∧ y = f i) ∧
      Φ m1 (.lst ((List.range c).map f))) :
    EvC K l (tLc (iRng1 tA) (gName j) tYes te [j]) ρ m Φ := by
  refine e_lcR hj (a_imp h fun m1 x q => ?_)
  obtain ⟨z, rfl, c, f, rfl, hc, hb, hq⟩ := q
  refine ⟨_, rfl, by omega, by omega, fun i n acc => n = m1 ∧
    acc = ((List.range c).map f).take i, ⟨rfl, rfl⟩, ?_, ?_⟩
  · intro i n acc hi hI _
    rw [Int.toNat_natCast] at hi
    obtain ⟨rfl, rfl⟩ := hI
    refine e_imp (hb i hi) fun n2 y q => ?_
    obtain ⟨rfl, rfl⟩ := q
    refine ⟨rfl, (take_snoc' ?_).symm⟩
    rw [List.getElem?_map, List.getElem?_range hi]; rfl
  · intro n acc hl hI
    obtain ⟨rfl, rfl⟩ := hI
    rw [Int.toNat_natCast, List.take_of_length_le (by simp)]
    exact hq
theorem e_lcTf {j : Nat} (hj : ρ[j]? = some none)
    (h : EvC K l tl ρ m fun m1 x => ∃ ds, x = .tup ds ∧
      ∃ (α : Type) (xs : List α) (g f : α → D), ds = xs.map g ∧
      xs.length ≤ 50000 ∧
      (∀ (i : Nat) a, xs[i]? = some a →
        EvC K l te (ρ.set j (some (.dat (g a)))) m1
          fun n2 y => n2 = m1 ∧ y = f a) ∧ Φ m1 (.lst (xs.map f))) :
    EvC K l (tLc (iTup K tl) (gName j) tYes te [j]) ρ m Φ := by
  refine e_lcT hj (e_imp h fun m1 x q => ?_)
  obtain ⟨ds, rfl, α, xs, g, f, rfl, hc, hb, hq⟩ := q
  refine ⟨_, rfl, by rw [List.length_map]; exact hc, fun i n acc => n = m1 ∧
    acc = (xs.map f).take i, ⟨rfl, rfl⟩, ?_, ?_⟩
  · intro i n acc d hd hI _
    obtain ⟨rfl, rfl⟩ := hI
    rw [List.getElem?_map] at hd
    cases e : xs[i]? with
    | none => rw [e] at hd; cases hd
    | some a =>
      rw [e] at hd
      cases hd
      refine e_imp (hb i a e) fun n2 y q => ?_
      obtain ⟨rfl, rfl⟩ := q
      refine ⟨rfl, (take_snoc' ?_).symm⟩
      rw [List.getElem?_map, e]; rfl
  · intro n acc hl hI
    obtain ⟨rfl, rfl⟩ := hI
    rw [List.length_map, List.take_of_length_le (by simp)]
    exact hq
theorem e_lcLf {j : Nat} (hj : ρ[j]? = some none)
    (h : EvC K l tl ρ m fun m1 x => ∃ ds, x = .lst ds ∧
      ∃ (α : Type) (xs : List α) (g f : α → D), ds = xs.map g ∧
      xs.length ≤ 50000 ∧
      (∀ (i : Nat) a, xs[i]? = some a →
        EvC K l te (ρ.set j (some (.dat (g a)))) m1
          fun n2 y => n2 = m1 ∧ y = f a) ∧ Φ m1 (.lst (xs.map f))) :
    EvC K l (tLc (iList K tl) (gName j) tYes te [j]) ρ m Φ := by
  refine e_lcL hj (e_imp h fun m1 x q => ?_)
  obtain ⟨ds, rfl, α, xs, g, f, rfl, hc, hb, hq⟩ := q
  refine ⟨_, rfl, by rw [List.length_map]; exact hc, fun i n acc => n = m1 ∧
    acc = (xs.map f).take i, ⟨rfl, rfl⟩, ?_, ?_⟩
  · intro i n acc d hd hI _
    obtain ⟨rfl, rfl⟩ := hI
    rw [List.getElem?_map] at hd
    cases e : xs[i]? with
    | none => rw [e] at hd; cases hd
    | some a =>
      rw [e] at hd
      cases hd
      refine e_imp (hb i a e) fun n2 y q => ?_
      obtain ⟨rfl, rfl⟩ := q
      refine ⟨rfl, (take_snoc' ?_).symm⟩
      rw [List.getElem?_map, e]; rfl
  · intro n acc hl hI
    obtain ⟨rfl, rfl⟩ := hI
    rw [List.length_map, List.take_of_length_le (by simp)]
    exact hq
theorem s_forRw {j : Nat}
    (h : AvC K l tA ρ m fun m1 x => ∃ z : Int, x = [.int z] ∧
      ∃ (c k : Nat) (W : List Nat) (R : Nat → List (Option Sl) → Prop)
        (xs0 : List (Option Sl)), z = c ∧ c < 2 ^ 62 ∧
      xs0.length = W.length ∧ ρ = put ρ W xs0 ∧ R 0 xs0 ∧
      (∀ (i n : Nat) xs, i < c → n ≤ m1 + k * i → xs.length = W.length →
        R i xs → SvC K l tb ((put ρ W xs).set j (some (.dat (.int i)))) n
          (fun n2 ρ2 => n2 ≤ n + k ∧ ∃ xs', xs'.length = W.length ∧
            ρ2 = put ρ W xs' ∧ R (i + 1) xs') Rt) ∧
      ∀ n xs, n ≤ m1 + k * c → xs.length = W.length → R c xs →
        Nx n (put ρ W xs)) :
    SvC K l (tFor (iRng1 tA) (gName j) tb) ρ m Nx Rt := by
  refine s_forR (a_imp h fun m1 x q => ?_)
  obtain ⟨z, rfl, c, k, W, R, xs0, rfl, hc, hl0, e0, h0, hb, hq⟩ := q
  refine ⟨_, rfl, by omega, by omega, fun i n ρ' => n ≤ m1 + k * i ∧
    ∃ xs, xs.length = W.length ∧ ρ' = put ρ W xs ∧ R i xs,
    ⟨Nat.le_add_right _ _, xs0, hl0, e0, h0⟩, ?_, ?_⟩
  · intro i n ρ' hi hI
    rw [Int.toNat_natCast] at hi
    obtain ⟨hn, xs, hx, rfl, hR⟩ := hI
    refine s_imp (hb i n xs hi hn hx hR) (fun n2 ρ2 q => ⟨?_, q.2⟩)
      fun n d q => q
    have := q.1
    rw [Nat.mul_add, Nat.mul_one]
    omega
  · intro n ρ' hI
    rw [Int.toNat_natCast] at hI
    obtain ⟨hn, xs, hx, rfl, hR⟩ := hI
    exact hq n xs hn hx hR
theorem s_forTw {j : Nat}
    (h : EvC K l tl ρ m fun m1 x => ∃ ds, x = .tup ds ∧
      ∃ (k : Nat) (W : List Nat) (R : Nat → List (Option Sl) → Prop)
        (xs0 : List (Option Sl)),
      xs0.length = W.length ∧ ρ = put ρ W xs0 ∧ R 0 xs0 ∧
      (∀ (i n : Nat) d xs, ds[i]? = some d → n ≤ m1 + k * i →
        xs.length = W.length → R i xs →
        SvC K l tb ((put ρ W xs).set j (some (.dat d))) n
          (fun n2 ρ2 => n2 ≤ n + k ∧ ∃ xs', xs'.length = W.length ∧
            ρ2 = put ρ W xs' ∧ R (i + 1) xs') Rt) ∧
      ∀ n xs, n ≤ m1 + k * ds.length → xs.length = W.length →
        R ds.length xs → Nx n (put ρ W xs)) :
    SvC K l (tFor (iTup K tl) (gName j) tb) ρ m Nx Rt := by
  refine s_forT (e_imp h fun m1 x q => ?_)
  obtain ⟨ds, rfl, k, W, R, xs0, hl0, e0, h0, hb, hq⟩ := q
  refine ⟨_, rfl, fun i n ρ' => n ≤ m1 + k * i ∧
    ∃ xs, xs.length = W.length ∧ ρ' = put ρ W xs ∧ R i xs,
    ⟨Nat.le_add_right _ _, xs0, hl0, e0, h0⟩, ?_, ?_⟩
  · intro i n ρ' d hi hI
    obtain ⟨hn, xs, hx, rfl, hR⟩ := hI
    refine s_imp (hb i n d xs hi hn hx hR) (fun n2 ρ2 q => ⟨?_, q.2⟩)
      fun n d q => q
    have := q.1
    rw [Nat.mul_add, Nat.mul_one]
    omega
  · intro n ρ' hI
    obtain ⟨hn, xs, hx, rfl, hR⟩ := hI
    exact hq n xs hn hx hR
theorem s_forLw {j : Nat}
    (h : EvC K l tl ρ m fun m1 x => ∃ ds, x = .lst ds ∧
      ∃ (k : Nat) (W : List Nat) (R : Nat → List (Option Sl) → Prop)
        (xs0 : List (Option Sl)),
      xs0.length = W.length ∧ ρ = put ρ W xs0 ∧ R 0 xs0 ∧
      (∀ (i n : Nat) d xs, ds[i]? = some d → n ≤ m1 + k * i →
        xs.length = W.length → R i xs →
        SvC K l tb ((put ρ W xs).set j (some (.dat d))) n
          (fun n2 ρ2 => n2 ≤ n + k ∧ ∃ xs', xs'.length = W.length ∧
            ρ2 = put ρ W xs' ∧ R (i + 1) xs') Rt) ∧
      ∀ n xs, n ≤ m1 + k * ds.length → xs.length = W.length →
        R ds.length xs → Nx n (put ρ W xs)) :
    SvC K l (tFor (iList K tl) (gName j) tb) ρ m Nx Rt := by
  refine s_forL (e_imp h fun m1 x q => ?_)
  obtain ⟨ds, rfl, k, W, R, xs0, hl0, e0, h0, hb, hq⟩ := q
  refine ⟨_, rfl, fun i n ρ' => n ≤ m1 + k * i ∧
    ∃ xs, xs.length = W.length ∧ ρ' = put ρ W xs ∧ R i xs,
    ⟨Nat.le_add_right _ _, xs0, hl0, e0, h0⟩, ?_, ?_⟩
  · intro i n ρ' d hi hI
    obtain ⟨hn, xs, hx, rfl, hR⟩ := hI
    refine s_imp (hb i n d xs hi hn hx hR) (fun n2 ρ2 q => ⟨?_, q.2⟩)
      fun n d q => q
    have := q.1
    rw [Nat.mul_add, Nat.mul_one]
    omega
  · intro n ρ' hI
    obtain ⟨hn, xs, hx, rfl, hR⟩ := hI
    exact hq n xs hn hx hR
/-- an item, by a number from 0 -/
theorem v_ixN {ds : List D} {d : D} {c : Nat} (hd : ds[c]? = some d)
    (q : Φ m d) :
    VvC K l ρ (fun vs H Q => ∃ x y, vs = [x, y] ∧ rIxT K x y H Q)
      [.tup ds, .int (c : Int)] m Φ :=
  v_ixT (by omega) (by rw [Int.toNat_natCast]; exact hd) q
theorem v_ixNL {ds : List D} {d : D} {c : Nat} (hd : ds[c]? = some d)
    (q : Φ m d) :
    VvC K l ρ (fun vs H Q => ∃ x y, vs = [x, y] ∧ rIxL K x y H Q)
      [.lst ds, .int (c : Int)] m Φ :=
  v_ixL (by omega) (by rw [Int.toNat_natCast]; exact hd) q
theorem v_neSame {a : Str} (q : Φ m (.bl false)) :
    VvC K l ρ (fun vs H Q => ∃ x y, vs = [x, y] ∧ rNe x y H Q)
      [.str a, .str a] m Φ :=
  v_neS (by rw [decide_eq_true rfl]; exact q)
theorem v_eqSame {a : Str} (q : Φ m (.bl true)) :
    VvC K l ρ (fun vs H Q => ∃ x y, vs = [x, y] ∧ rEq x y H Q)
      [.str a, .str a] m Φ :=
  v_eqS (by rw [decide_eq_true rfl]; exact q)
theorem v_isNn (q : Φ m (.bl true)) :
    VvC K l ρ (fun vs H Q => ∃ x y, vs = [x, y] ∧ rIsN x y H Q)
      [.non, .non] m Φ := v_isN q
theorem v_neDs {a : D} {k w : Nat} (h : Num k w a) (hk : k ≤ 64)
    (q : Φ m (.bl false)) :
    VvC K l ρ (fun vs H Q => ∃ x y, vs = [x, y] ∧ rNeD K x y H Q)
      [a, a] m Φ :=
  v_neD (h.eqs hk) (h.eqs hk) (by rw [h.same]; exact q)
end
end Wt

namespace Wt
open PySem PySem.Spec PyProof.Rows L2
def ItET (K : PySem.W.Frag) (a : Addr) : It where
  go := fun i H => ∃ xs : List V, SqT K H a xs ∧ i < xs.length
  yld := fun i H v H' => ∃ T x, v = .ref T ∧ H T = none ∧
    H' = upd H T (.tup [.int (i : Nat), x]) ∧
    ∀ xs, SqT K H a xs → xs[i]? = some x
  stop := fun i H => ∃ xs : List V, SqT K H a xs ∧ i = xs.length
def tnE (n a i : Nat) (h : Heap) : Prop :=
  (∃ old, IsEnum h (n + 1) n ((0 : Int) + (i : Int)) old) ∧
    h.IsTupleIter n a i
theorem goesE {prog : Program} {w : World} {A : Around} {elts : List Expr}
    {k : Nat} {pos : Pos} {n a : Nat} (hh : A.handled = none) (ha : a < n)
    (xs : Array Value) :
    GoesN prog w A (.Tuple elts k pos) (n + 1) ((n + 1) :: [n, a])
      [n + 1, n] xs.size
      (fun i h0 v h => ∃ T t x, v = .ref T ∧ h0.objs.size ≤ T ∧
        xs[i]? = some x ∧ h.IsTuple T #[.int ((0 : Int) + (i : Int)) t, x])
      (fun i h => (∃ old, IsEnum h (n + 1) n ((0 : Int) + (i : Int)) old) ∧
        h.IsTupleIter n a i ∧ h.IsTuple a xs) :=
  GoesN.enumFrom 0
    (Draws.tuple (A := A.in1) hh n a (Nat.ne_of_lt ha) xs) (n + 1)
    (Nat.succ_ne_self n)
    (by
      intro z
      simp only [List.mem_cons, List.not_mem_nil, or_false] at z
      rcases z with z | z <;> (have z : (_ : Nat) = _ := z; omega))
    List.mem_cons_self
theorem turnE {P : Program} {w : World} {K : PySem.W.Frag}
    {elts : List Expr} {kk : Nat} {tpos : Pos} {n a : Nat} (ha : a < n) :
    Turn P w K (.Tuple elts kk tpos) (ItET K a) [n + 1, n] (n + 1)
      (tnE n a) where
  mem := List.mem_cons_self
  obj := fun i h st x hx => by
    obtain ⟨⟨old, he⟩, ⟨o1, e1, _, d1⟩⟩ := st
    simp only [List.mem_cons, List.not_mem_nil, or_false] at hx
    rcases hx with rfl | rfl
    · exact ⟨_, he, nofun⟩
    · exact ⟨o1, e1, fun v q => by rw [d1] at q; cases q⟩
  keep := fun i h h' st k => by
    obtain ⟨⟨old, he⟩, h1⟩ := st
    exact ⟨⟨old, k _ (by simp) _ he⟩, h1.at fun o q => k n (by simp) o q⟩
  item := by
    intro X hP hw hK hcl i pins s σ H E I hf st hg
    subst hP hw hK
    obtain ⟨he, h1⟩ := id st
    obtain ⟨xs, q1, hi⟩ := hg
    obtain ⟨its1, r1, p1, _⟩ := I.tuple q1
    have l1 := r1.length
    have lt : ∀ d ∈ [n + 1, n], d < s.heap.objs.size := by
      intro d hd
      obtain ⟨old, he⟩ := he
      obtain ⟨o1, e1, _⟩ := h1
      simp only [List.mem_cons, List.not_mem_nil, or_false] at hd
      rcases hd with rfl | rfl
      · exact Heap.lt_size he
      · exact Heap.lt_size e1
    refine (goesE (I.ok.hd hcl) ha its1.toArray).goes i s _ E
      (by simp only [List.size_toArray]; omega) ⟨he, h1, p1⟩
      fun v h' tk hY st' hk htk => ?_
    obtain ⟨T, t, x, rfl, hT, e1, hTu⟩ := hY
    obtain ⟨vx, ex⟩ : ∃ vx, xs[i]? = some vx :=
      ⟨xs[i]'hi, List.getElem?_eq_getElem _⟩
    obtain ⟨u1, g1, k1⟩ := r1.get ex
    rw [List.getElem?_toArray, g1] at e1
    cases e1
    have new : ObjOk X.prog X.w (upd H T (.tup [.int (i : Nat), vx])) h' T
        (.tup [.int (i : Nat), vx]) :=
      ⟨by show 2 ≤ sizeLine; decide, [_, x],
        .cons ⟨t, by rw [Int.zero_add]⟩ (.cons k1 .nil), hTu⟩
    have I1 := I.turnedNew (t' := tk) (ch := [n + 1, n])
      (fun d o hd q => hk d o hd q) hf hT new
    obtain ⟨z1, z2, z3⟩ := st'
    refine ⟨.ref T, _, I1, rfl, ⟨T, vx, rfl, I.hok.fresh hT, rfl,
      fun l hl => ?_⟩, ⟨z1, z2⟩, fun d hd => ?_⟩
    · rw [I.tuple_inj hl q1]; exact ex
    · have := lt d hd
      rw [upd_ne (fun (z : d = T) =>
        Nat.lt_irrefl d (Nat.lt_of_lt_of_le this (z ▸ hT)))]
      exact (hf d hd).1
  done := by
    intro X hP hw hK hcl i pins s σ H E I hf st hg
    subst hP hw hK
    obtain ⟨he, h1⟩ := st
    obtain ⟨xs, q1, hi⟩ := hg
    obtain ⟨its1, r1, p1, _⟩ := I.tuple q1
    have e : its1.toArray.size = i := by
      have l1 := r1.length
      simp only [List.size_toArray]
      omega
    refine (goesE (prog := X.prog) (w := X.w) (elts := elts) (k := kk)
      (pos := tpos) (I.ok.hd hcl) ha its1.toArray).stops s _ E
      (by rw [e]; exact ⟨he, h1, p1⟩) fun h' tk hk htk => ?_
    exact I.turnedL (t' := tk) (ch := [n + 1, n])
      (fun d o hd q => hk d o hd q) hf
  self := fun A i s Q E st h => let ⟨⟨_, he⟩, _⟩ := st; wpAny_pyIter_enum he h
theorem meetsE {v : Value} {o : Obj} {H : Heap → Prop} (B : Begins v o H) :
    Meets (Builtin.«enumerate.__new__» ⟨[.type "enumerate", v], []⟩)
      (fun _ R s => H s.heap ∧
        R (.ok (.ret (.ref (s.heap.push o).objs.size)))
          { s with heap := ((s.heap.push o).push (Obj.mk (.type "enumerate")
              none (.fields #[.none, .bool false, .ref s.heap.objs.size,
                rawInt 0, .none, .none]) #[])) }) :=
  .of_wp fun prog w A R s h => by
    obtain ⟨hp, g, d, tk, os⟩ := s
    obtain ⟨h1, h⟩ := h
    have hsub := sub_enumerate
    have q1 : ∀ {A' : Around} {E : Value → Shared → Prop}
        {Q : Value → Shared → Prop},
        Q (.ref hp.objs.size) ⟨hp.push o, g, d, tk, os⟩ →
        wpAny (model prog w) A' (pyIter v) Q E ⟨hp, g, d, tk, os⟩ :=
      fun q => B.iter prog w _ _ ⟨hp, g, d, tk, os⟩ _ h1 q
    wp_walk using q1
    refine wpAny_stack_any fun st => wpAny_pure ?_
    split
    · rename_i c _ _ _ _ _
      cases (c == Value.type "enumerate") <;>
        (wp_walk using q1; exact ⟨_, rfl, h⟩)
    · (wp_walk using q1; exact ⟨_, rfl, h⟩)
def enumO (n : Nat) : Obj := Obj.mk (.type "enumerate") none
  (.fields #[.none, .bool false, .ref n, rawInt 0, .none, .none]) #[]
theorem callE {prog : Program} {w : World} {A : Around}
    {E : Value → Shared → Prop} {s : Shared} {a : Addr} {items : Array Value}
    {Q : Value → Shared → Prop} (hT : s.heap.IsTuple a items)
    (h : ∀ h', IsEnum h' (s.heap.objs.size + 1) s.heap.objs.size 0 .none →
      h'.IsTupleIter s.heap.objs.size a 0 →
      (∀ b o, s.heap.get? b = some o → h'.get? b = some o) →
      Q (.ref (s.heap.objs.size + 1)) { s with heap := h' }) :
    wpAny (model prog w) A (call (.type "enumerate") [.ref a]) Q E s := by
  refine callType_new F.called_enumerate (by decide)
    (F.typeCall_enumerate_1 _) (F.newCall_enumerate_1 _)
    (fun obj => F.args_object_init_2 obj _) F.entry_enumerate_new
    (meetsE (begins_tuple a items)) ⟨hT, ?_⟩
  have hz : ∀ o : Obj, (s.heap.push o).objs.size = s.heap.objs.size + 1 :=
    fun o => Heap.size_push ..
  show _ ∧ _
  rw [hz]
  have he : ∀ o : Obj, IsEnum ((s.heap.push o).push (enumO s.heap.objs.size))
      (s.heap.objs.size + 1) s.heap.objs.size 0 .none := by
    intro o
    have := Heap.get?_push_size (s.heap.push o)
      (o := enumO s.heap.objs.size) rfl
    rw [hz] at this
    exact this
  exact ⟨⟨_, he _, rfl⟩, h _ (he _) ⟨_, Heap.get?_push_of_some _
    (Heap.get?_push_size _ rfl), rfl, rfl⟩ fun b o x =>
      Heap.get?_push_of_some _ (Heap.get?_push_of_some _ x)⟩
def iEnT (K : PySem.W.Frag) (ta : TA) : TI := fun σ H R =>
  ta σ H fun vs H1 => ∃ a xs, vs = [.ref a] ∧ SqT K H1 a xs ∧
    R (ItET K a) H1
theorem pi_enT {X : Cx} {e : Expr} {ta : TA} {p pos tpos : Pos}
    {elts : List Expr} {kk : Nat} (hg : Gl X "enumerate")
    (hm : X.mg "enumerate" = none) (ha : PA X [e] ta)
    (hs : starEach [e] X.env = [(false, eval e X.env)] := by rfl) :
    PI X (.Tuple elts kk tpos) (.Call (.Name "enumerate" p) [e] [] pos)
      (iEnT X.K ta) := by
  refine ⟨fun pins s σ H R I h => ?_⟩
  refine Call_ (ld_blt I hg hm boot_enumerate
    (PyProof.Rows.callWith_type1 (thn (ha.run pos pins s σ H _ I h)
      fun us s1 ⟨vs, H1, I1, r1, q1⟩ => ?_) hs rfl))
  obtain ⟨a, xs, rfl, hq, q⟩ := q1
  cases r1 with
  | cons r rr =>
    cases rr
    cases r
    obtain ⟨its, rv, p', hz⟩ := I1.tuple hq
    have la : a < s1.heap.objs.size := let ⟨_, z, _⟩ := p'; Heap.lt_size z
    refine callE (show s1.heap.IsTuple a its.toArray from p')
      fun h' he hit hk => wpAny_pyIter_enum he ?_
    have I2 : Inv X pins σ H1 { s1 with heap := h' } :=
      I1.kept (t' := s1.toks) hk
    refine ⟨s1.heap.objs.size + 1, _, _, _, H1, rfl, I2, turnE la,
      ⟨⟨.none, by simpa using he⟩, hit⟩, fun d hd => ?_, q⟩
    have hle : s1.heap.objs.size ≤ d := by
      simp only [List.mem_cons, List.not_mem_nil, or_false] at hd
      rcases hd with z | z <;> (have z : (_ : Nat) = _ := z; omega)
    exact I1.fpOk hle (I1.hok.fresh hle)
theorem walk_enT {K : PySem.W.Frag} {a : Addr} {xs : List V} :
    Walk (ItET K a) xs.length (fun H => SqT K H a xs)
      (YPair (fun i => some (.int (i : Nat))) (fun i => xs[i]?)) := by
  refine ⟨fun i _ hi q => ⟨xs, q, hi⟩, fun _ q => ⟨xs, q, rfl⟩,
    fun i H v H' _ q y => ?_⟩
  obtain ⟨T, x, h1, h2, h3, h4⟩ := y
  exact ⟨T, .int (i : Nat), x, h1, h2, h3, rfl, h4 xs q⟩
section
variable {K : PySem.W.Frag} {l : Option Addr} {ρ : Ro} {m : Nat}
variable {Φ : Nat → D → Prop} {Θ : Nat → Bool → Prop}
variable {Nx : Nat → Ro → Prop} {Rt : Nat → D → Prop} {ts tb : TS}
variable {ta te tl : TE} {t u : TT} {tA tK : TA}
/-- [e for i, a in enumerate(t)] -/
theorem e_lcE {i j : Nat} (hi : ρ[i]? = some none) (hj : ρ[j]? = some none)
    (hij : i ≠ j)
    (h : AvC K l tA ρ m fun m1 as => ∃ ys, as = [.tup ys] ∧
      ys.length ≤ 50000 ∧ ∃ I : Nat → Nat → List D → Prop, I 0 m1 [] ∧
      (∀ (c n : Nat) acc e, ys[c]? = some e → I c n acc →
        acc.length = c →
        EvC K l te ((ρ.set i (some (.dat (.int c)))).set j (some (.dat e))) n
          fun n2 y => I (c + 1) n2 (acc ++ [y])) ∧
      ∀ n acc, acc.length = ys.length → I ys.length n acc →
        Φ n (.lst acc)) :
    EvC K l (tLc (iEnT K tA) (g2 K i j) tYes te [i, j]) ρ m Φ := by
  intro Z B H σ Q ok k
  refine h Z B H σ _ ok fun vs as m1 B1 H1 o1 f1 i1 g1 => ?_
  obtain ⟨ys, rfl, hl, I, h0, hs, hd⟩ := g1
  obtain ⟨v, rfl, z1⟩ := isAll1 i1
  cases z1 with
  | @tup a us _ hu r1 =>
    refine ⟨a, us, rfl, sameT o1.sub hu, fun A hA => ?_⟩
    have hz : ¬ Z A := fun z => (o1.zs A z).1 hA
    refine lc_it (walk_enT (xs := us))
      (LcW K l Z ρ σ B1 H1 A I) (lcw_start o1 hA h0)
      (fun c H' _ w => ?_) (fun c x H' H'' hc w q => ?_) fun H' w => ?_
    · obtain ⟨n, acc, zs, B', ok', fr', _⟩ := w
      exact sameT ok'.sub (sameT fr'.sub hu)
    · obtain ⟨T, x1, y1, rfl, hT, rfl, e1, e2⟩ := q
      cases e1
      refine lcw_turn2 (P := fun d e => d = .int (c : Nat) ∧ ys[c]? = some e)
        hz hi hj hij w hT (fun B' sb => ?_)
        (by rw [r1.length] at hc; omega)
        fun d e n acc p => by
          obtain ⟨rfl, p2⟩ := p
          exact hs c n acc e p2
      obtain ⟨e, q2, p2⟩ := (r1.mono sb).get e2
      exact ⟨_, e, .int _, p2, rfl, q2⟩
    · rw [r1.length] at w
      exact lcw_end hz w hd fun v d m' B2 H2 o2 f2 i2 g2 =>
        k v d m' B2 H2 o2 (f1.trans f2) i2 g2
/-- for i, a in enumerate(t) -/
theorem s_forE {i j : Nat}
    (h : AvC K l tA ρ m fun m1 as => ∃ ys, as = [.tup ys] ∧
      ∃ I : Nat → Nat → Ro → Prop, I 0 m1 ρ ∧
      (∀ (c n : Nat) ρ' e, ys[c]? = some e → I c n ρ' →
        SvC K l tb ((ρ'.set i (some (.dat (.int c)))).set j (some (.dat e))) n
          (fun n2 ρ2 => I (c + 1) n2 ρ2) Rt) ∧
      ∀ n ρ', I ys.length n ρ' → Nx n ρ') :
    SvC K l (tFor (iEnT K tA) (g2 K i j) tb) ρ m Nx Rt := by
  intro Z B H σ W ok k jr
  refine h Z B H σ _ ok fun vs as m1 B1 H1 o1 f1 i1 g1 => ?_
  obtain ⟨ys, rfl, I, h0, hs, hd⟩ := g1
  obtain ⟨v, rfl, z1⟩ := isAll1 i1
  cases z1 with
  | @tup a us _ hu r1 =>
    refine ⟨a, us, rfl, sameT o1.sub hu, ?_⟩
    refine for_it (walk_enT (xs := us))
      (fun c σ' H' => ∃ n ρ' B', Ok K l Z n B' H' σ' ρ' ∧
        Fr Z B1 H1 B' H' ∧ I c n ρ')
      ⟨m1, ρ, B1, o1, Fr.refl, h0⟩ (fun c σ' H' _ w => ?_)
      (fun c x σ' H' H'' hc w q => ?_) fun σ' H' w => ?_
    · obtain ⟨n, ρ', B', ok', fr', _⟩ := w
      exact sameT ok'.sub (sameT fr'.sub hu)
    · obtain ⟨T, x1, y1, rfl, hT, rfl, e1, e2⟩ := q
      cases e1
      obtain ⟨n, ρ', B', ok', fr', hI⟩ := w
      obtain ⟨e, q2, p2⟩ := (r1.mono fr'.sub).get e2
      obtain ⟨okJ, frJ⟩ := ok'.junk (o := .tup [.int (c : Nat), y1]) hT
      refine ⟨T, [.int (c : Nat), y1], rfl, SqT.of upd_same, rfl,
        .int (c : Nat), [y1], rfl, y1, [], rfl, rfl, ?_⟩
      refine hs c n ρ' e q2 hI Z B' _ _ _ ((okJ.set (.int _)).set p2)
        (fun σ2 ρ2 m2 B2 H2 o2 f2 g2 =>
          ⟨m2, ρ2, B2, o2, (fr'.trans frJ).trans f2, g2⟩)
        fun v d m2 B2 H2 o2 f2 i2 g2 => ?_
      exact jr v d m2 B2 H2 o2 ((f1.trans (fr'.trans frJ)).trans f2) i2 g2
    · obtain ⟨n, ρ', B', ok', fr', hI⟩ := w
      rw [r1.length] at hI
      exact k σ' ρ' n B' H' ok' (f1.trans fr') (hd n ρ' hI)
theorem e_lcEf {i j : Nat} (hi : ρ[i]? = some none) (hj : ρ[j]? = some none)
    (hij : i ≠ j)
    (h : AvC K l tA ρ m fun m1 as => ∃ ds, as = [.tup ds] ∧
      ∃ (α : Type) (xs : List α) (g : α → D) (f : Nat → α → D),
      ds = xs.map g ∧ xs.length ≤ 50000 ∧
      (∀ (c : Nat) a, xs[c]? = some a →
        EvC K l te ((ρ.set i (some (.dat (.int c)))).set j
          (some (.dat (g a)))) m1 fun n2 y => n2 = m1 ∧ y = f c a) ∧
      Φ m1 (.lst (xs.mapIdx f))) :
    EvC K l (tLc (iEnT K tA) (g2 K i j) tYes te [i, j]) ρ m Φ := by
  refine e_lcE hi hj hij (a_imp h fun m1 x q => ?_)
  obtain ⟨ds, rfl, α, xs, g, f, rfl, hc, hb, hq⟩ := q
  refine ⟨_, rfl, by rw [List.length_map]; exact hc, fun i n acc => n = m1 ∧
    acc = (xs.mapIdx f).take i, ⟨rfl, rfl⟩, ?_, ?_⟩
  · intro i n acc d hd hI _
    obtain ⟨rfl, rfl⟩ := hI
    rw [List.getElem?_map] at hd
    cases e : xs[i]? with
    | none => rw [e] at hd; cases hd
    | some a =>
      rw [e] at hd
      cases hd
      refine e_imp (hb i a e) fun n2 y q => ?_
      obtain ⟨rfl, rfl⟩ := q
      refine ⟨rfl, (take_snoc' ?_).symm⟩
      rw [List.getElem?_mapIdx, e]; rfl
  · intro n acc hl hI
    obtain ⟨rfl, rfl⟩ := hI
    rw [List.length_map, List.take_of_length_le (by simp)]
    exact hq
theorem s_forEw {i j : Nat}
    (h : AvC K l tA ρ m fun m1 as => ∃ ys, as = [.tup ys] ∧
      ∃ (k : Nat) (W : List Nat) (R : Nat → List (Option Sl) → Prop)
        (xs0 : List (Option Sl)),
      xs0.length = W.length ∧ ρ = put ρ W xs0 ∧ R 0 xs0 ∧
      (∀ (c n : Nat) e zs, ys[c]? = some e →
        n ≤ m1 + k * c → zs.length = W.length → R c zs →
        SvC K l tb (((put ρ W zs).set i (some (.dat (.int c)))).set j
            (some (.dat e))) n
          (fun n2 ρ2 => n2 ≤ n + k ∧ ∃ xs', xs'.length = W.length ∧
            ρ2 = put ρ W xs' ∧ R (c + 1) xs') Rt) ∧
      ∀ n zs, n ≤ m1 + k * ys.length → zs.length = W.length →
        R ys.length zs → Nx n (put ρ W zs)) :
    SvC K l (tFor (iEnT K tA) (g2 K i j) tb) ρ m Nx Rt := by
  refine s_forE (a_imp h fun m1 x q => ?_)
  obtain ⟨ys, rfl, k, W, R, xs0, hl0, e0, h0, hb, hq⟩ := q
  refine ⟨_, rfl, fun i n ρ' => n ≤ m1 + k * i ∧
    ∃ xs, xs.length = W.length ∧ ρ' = put ρ W xs ∧ R i xs,
    ⟨Nat.le_add_right _ _, xs0, hl0, e0, h0⟩, ?_, ?_⟩
  · intro c n ρ' e he hI
    obtain ⟨hn, xs, hx, rfl, hR⟩ := hI
    refine s_imp (hb c n e xs he hn hx hR) (fun n2 ρ2 q => ⟨?_, q.2⟩)
      fun n d q => q
    have := q.1
    rw [Nat.mul_add, Nat.mul_one]
    omega
  · intro n ρ' hI
    obtain ⟨hn, xs, hx, rfl, hR⟩ := hI
    exact hq n xs hn hx hR
/-- o.m(), the fields known -/
theorem e_methO {C : Addr} {n1 n2 me : Str} {pre : List D → Prop}
    {F : List D → D} {E : XK} (c : Own2 K C n1 n2) (hm1 : me ≠ n1)
    (hm2 : me ≠ n2)
    (h : EvC K l ta ρ m fun m1 x => ∃ d1 d2, x = .ins C [n1, n2] [d1, d2] ∧
      pre [x] ∧ Φ m1 (F [x])) :
    EvC K l (tMeth C me (SpP K pre F) [] E ta tNil) ρ m Φ :=
  e_meth0 hm1 hm2 h
theorem v_eqDo {a b : D} {k w k' w' : Nat} (h : Num k w a) (h' : Num k' w' b)
    (hk : k ≤ 64) (hk' : k' ≤ 64) (n : a ≠ b) (q : Φ m (.bl false)) :
    VvC K l ρ (fun vs H Q => ∃ x y, vs = [x, y] ∧ rEqD K x y H Q)
      [a, b] m Φ :=
  v_eqD (h.eqs hk) (h'.eqs hk') (by rw [h.other h' n]; exact q)
theorem v_neDo {a b : D} {k w k' w' : Nat} (h : Num k w a) (h' : Num k' w' b)
    (hk : k ≤ 64) (hk' : k' ≤ 64) (n : a ≠ b) (q : Φ m (.bl true)) :
    VvC K l ρ (fun vs H Q => ∃ x y, vs = [x, y] ∧ rNeD K x y H Q)
      [a, b] m Φ :=
  v_neD (h.eqs hk) (h'.eqs hk') (by rw [h.other h' n]; exact q)
end
end Wt

namespace Wt
open PySem PySem.Spec PyProof.Rows L2
section
variable {K : PySem.W.Frag} {l : Option Addr} {ρ : Ro} {m : Nat}
variable {Φ : Nat → D → Prop} {Θ : Nat → Bool → Prop}
variable {Nx : Nat → Ro → Prop} {Rt : Nat → D → Prop} {ts tb : TS}
variable {ta te tl ti : TE} {t u tt : TT} {tA tK : TA}
variable {Z Z' : Addr → Prop} {B H : Hp} {σ : L2.St}
theorem isAll_rng {B : Hp} (n : Nat) : IsAll K B (rgV 0 (n : Int))
    ((List.range n).map fun (i : Nat) => D.int i) := by
  unfold rgV
  rw [show ((n : Int) - 0).toNat = n by omega]
  induction n with
  | zero => exact .nil
  | succ n ih =>
    rw [List.range_succ, List.map_append, List.map_append]
    refine ih.append (.cons ?_ .nil)
    show Is K B (.int (0 + (n : Int))) (.int n)
    rw [Int.zero_add]
    exact .int _
theorem e_tupRg (h : EvC K l ta ρ m fun m1 d => ∃ z, d = .int z ∧
      ∃ n : Nat, z = n ∧ n ≤ 10000 ∧
      Φ m1 (.tup ((List.range n).map fun (i : Nat) => .int i))) :
    EvC K l (tTupRgC (tRg1 ta)) ρ m Φ := by
  intro Z B H σ Q ok k
  refine h Z B H σ _ ok fun v d m1 B1 H1 o1 f1 i1 g1 => ?_
  obtain ⟨z, rfl, n, rfl, hn, q⟩ := g1
  cases i1
  refine ⟨n, rfl, RgOk.of_le (by omega) (by omega) (by omega) (by omega),
    fun p ob hp hd _ => ?_⟩
  obtain ⟨o2, f2⟩ := o1.new (o := .frz ob (.tup (rgV 0 n))) hp
  exact k _ _ m1 _ _ o2 (f1.trans f2) (.newT upd_same hd
    (isAll_rng n)) q
theorem e_lstRg (h : EvC K l ta ρ m fun m1 d => ∃ z, d = .int z ∧
      ∃ n : Nat, z = n ∧ n ≤ 10000 ∧
      Φ m1 (.lst ((List.range n).map fun (i : Nat) => .int i))) :
    EvC K l (tLstRg (tRg1 ta)) ρ m Φ := by
  intro Z B H σ Q ok k
  refine h Z B H σ _ ok fun v d m1 B1 H1 o1 f1 i1 g1 => ?_
  obtain ⟨z, rfl, n, rfl, hn, q⟩ := g1
  cases i1
  refine ⟨n, rfl, RgOk.of_le (by omega) (by omega) (by omega) (by omega),
    fun p hp => ?_⟩
  obtain ⟨o2, f2⟩ := o1.new (o := .lst (rgV 0 n)) hp
  exact k _ _ m1 _ _ o2 (f1.trans f2) (.lst upd_same (isAll_rng n)) q
def LcX (K : PySem.W.Frag) (l : Option Addr) (Z : Addr → Prop) (ρ : Ro)
    (σ : L2.St) (B H : Hp) (A : Addr) (I : Nat → Nat → List D → Prop)
    (i : Nat) (H' : Hp) : Prop :=
  ∃ n acc xs B', Ok K l (fun a => Z a ∨ a = A) n B' H' σ ρ ∧
    Fr Z B H B' H' ∧ H' A = some (.lst xs) ∧ IsAll K B' xs acc ∧
    I i n acc ∧ acc.length ≤ i
theorem lcx_turn {A : Addr} {I : Nat → Nat → List D → Prop} {i j : Nat}
    {x : V} {H' : Hp} {P : D → Prop} (hz : ¬ Z A) (hj : ρ[j]? = some none)
    (w : LcX K l Z ρ σ B H A I i H')
    (hx : ∀ B', Same B B' → ∃ d, Is K B' x d ∧ P d) (hi : i < 100000)
    (he : ∀ d n acc, P d → I i n acc →
      TvC K l tt (ρ.set j (some (.dat d))) n fun n1 b =>
        if b = true then EvC K l te (ρ.set j (some (.dat d))) n1 fun n2 y =>
          I (i + 1) n2 (acc ++ [y]) else I (i + 1) n1 acc) :
    gName j x (wipe σ [j]) H' fun σ2 H2 => wipe σ2 [j] = wipe σ [j] ∧
      tt σ2 H2 fun b H3 => if b = true then te σ2 H3 fun y H4 =>
        ∃ acc, H4 A = some (.lst acc) ∧ acc.length < sizeLine ∧
          LcX K l Z ρ σ B H A I (i + 1) (upd H4 A (.lst (acc ++ [y])))
      else LcX K l Z ρ σ B H A I (i + 1) H3 := by
  obtain ⟨n, acc, xs, B', ok, fr, hA, is, hI, hl⟩ := w
  obtain ⟨d, hd, hP⟩ := hx B' fr.sub
  have e1 : (wipe σ [j]).set j (some x) = σ.set j (some x) := by
    show (σ.set j none).set j (some x) = _
    rw [List.set_set]
  unfold gName
  rw [e1]
  refine ⟨?_, ?_⟩
  · show (σ.set j (some x)).set j none = σ.set j none
    rw [List.set_set]
  · refine he d n acc hP hI _ B' H' _ _ (ok.set hd)
      fun b n1 B1 H1 o1 f1 g1 => ?_
    have hA1 : H1 A = some (.lst xs) := (f1.kept A (.inr rfl)).trans hA
    cases b with
    | false =>
      rw [if_neg Bool.false_ne_true] at g1 ⊢
      exact ⟨n1, acc, xs, B1, o1.unset hj, fr.trans (f1.weak fun z q => .inl q),
        hA1, is.mono f1.sub, g1, by omega⟩
    | true =>
      rw [if_pos rfl] at g1 ⊢
      refine g1 _ B1 H1 _ _ o1 fun v y n2 B2 H2 o2 f2 i2 g2 => ?_
      have hA2 : H2 A = some (.lst xs) := (f2.kept A (.inr rfl)).trans hA1
      refine ⟨xs, hA2, ?_, n2, acc ++ [y], xs ++ [v], B2,
        (o2.unset hj).write (.inr rfl), ?_, upd_same,
        ((is.mono f1.sub).mono f2.sub).append (.cons i2 .nil), g2,
        by simp; omega⟩
      · rw [is.length]
        exact Nat.lt_of_le_of_lt hl (Nat.lt_of_lt_of_le hi (by decide))
      · refine ⟨(fr.sub.trans f1.sub).trans f2.sub, fun z hz' => ?_⟩
        rw [upd_ne (fun (e : z = A) => hz (e ▸ hz'))]
        exact ((f2.kept z (.inl hz')).trans (f1.kept z (.inl hz'))).trans
          (fr.kept z hz')
theorem lcx_end {A : Addr} {I : Nat → Nat → List D → Prop} {i : Nat}
    {H' : Hp} {Q : VK} (hz : ¬ Z A) (w : LcX K l Z ρ σ B H A I i H')
    (q : ∀ n acc, I i n acc → Φ n (.lst acc))
    (k : ∀ v d m' B2 H2, Ok K l Z m' B2 H2 σ ρ → Fr Z B H B2 H2 →
      Is K B2 v d → Φ m' d → Q v H2) : Q (.ref A) H' := by
  obtain ⟨n, acc, xs, B', ok, fr, hA, is, hI, hl⟩ := w
  have z2 := (ok.zs A (.inr rfl)).2.1
  exact k _ _ n _ _ (ok.thaw hA hz) ⟨fr.sub.trans (same_new z2), fr.kept⟩
    (.lst upd_same (is.mono (same_new z2))) (q n acc hI)
theorem lcx_start {A : Addr} {I : Nat → Nat → List D → Prop}
    (ok : Ok K l Z m B H σ ρ) (hA : H A = none) (h0 : I 0 m []) :
    LcX K l Z ρ σ B H A I 0 (upd H A (.lst [])) := by
  refine ⟨m, [], [], B, ok.aside hA, ⟨Same.refl B, fun z hz => ?_⟩,
    upd_same, .nil, h0, Nat.le_refl _⟩
  exact upd_ne fun e => (ok.zs z hz).1 (e ▸ hA)
/-- [e for i in range(n) if t] -/
theorem e_lcRx {j : Nat} (hj : ρ[j]? = some none)
    (h : AvC K l tA ρ m fun m1 x => ∃ z : Int, x = [.int z] ∧
      ∃ (c : Nat) (I : Nat → Nat → List D → Prop), z = c ∧ c ≤ 50000 ∧
      I 0 m1 [] ∧
      (∀ (i n : Nat) acc, i < c → I i n acc →
        TvC K l tt (ρ.set j (some (.dat (.int i)))) n fun n1 b =>
          if b = true then EvC K l te (ρ.set j (some (.dat (.int i)))) n1
            fun n2 y => I (i + 1) n2 (acc ++ [y]) else I (i + 1) n1 acc) ∧
      ∀ n acc, I c n acc → Φ n (.lst acc)) :
    EvC K l (tLc (iRng1 tA) (gName j) tt te [j]) ρ m Φ := by
  intro Z B H σ Q ok k
  refine h Z B H σ _ ok fun vs x m1 B1 H1 o1 f1 i1 g1 => ?_
  obtain ⟨z, rfl, c, I, rfl, hc, h0, hs, hd⟩ := g1
  obtain ⟨v, rfl, i2⟩ := isAll1 i1
  cases i2
  refine ⟨(c : Int), rfl, by omega, by omega, fun A hA => ?_⟩
  have hz : ¬ Z A := fun z => (o1.zs A z).1 hA
  refine lc_range (lo := 0) (n := (c : Int).toNat)
    (LcX K l Z ρ σ B1 H1 A I)
    (lcx_start o1 hA h0) (fun i H' hi w => ?_) fun H' w => ?_
  · rw [Int.toNat_natCast] at hi
    have e0 : (0 : Int) + (i : Int) = (i : Int) := Int.zero_add _
    rw [e0]
    exact lcx_turn (P := fun d => d = .int i) hz hj w
      (fun B' sb => ⟨_, .int _, rfl⟩) (by omega)
      fun d n acc e => by subst e; exact hs i n acc hi
  · rw [Int.toNat_natCast] at w
    exact lcx_end hz w hd fun v d m' B2 H2 o2 f2 i2 g2 =>
      k v d m' B2 H2 o2 (f1.trans f2) i2 g2
/-- the same, told by a test and a function of the number -/
theorem e_lcRxf {j : Nat} (hj : ρ[j]? = some none)
    (h : AvC K l tA ρ m fun m1 x => ∃ z : Int, x = [.int z] ∧
      ∃ (c : Nat) (p : Nat → Bool) (f : Nat → D), z = c ∧ c ≤ 50000 ∧
      (∀ i : Nat, i < c →
        TvC K l tt (ρ.set j (some (.dat (.int i)))) m1 fun n1 b => n1 = m1 ∧
          b = p i) ∧
      (∀ i : Nat, i < c → EvC K l te (ρ.set j (some (.dat (.int i)))) m1
        fun n2 y => n2 = m1 ∧ y = f i) ∧
      Φ m1 (.lst (((List.range c).filter p).map f))) :
    EvC K l (tLc (iRng1 tA) (gName j) tt te [j]) ρ m Φ := by
  refine e_lcRx hj (a_imp h fun m1 x q => ?_)
  obtain ⟨z, rfl, c, p, f, rfl, hc, ht, hb, hq⟩ := q
  refine ⟨_, rfl, c, fun i n acc => n = m1 ∧
    acc = ((List.range i).filter p).map f, rfl, hc, ⟨rfl, rfl⟩, ?_, ?_⟩
  · intro i n acc hi hI
    obtain ⟨rfl, rfl⟩ := hI
    refine t_imp (ht i hi) fun n1 b e => ?_
    obtain ⟨rfl, rfl⟩ := e
    cases e : p i with
    | true =>
      rw [if_pos rfl]
      refine e_imp (hb i hi) fun n2 y e2 => ?_
      obtain ⟨rfl, rfl⟩ := e2
      refine ⟨rfl, ?_⟩
      rw [List.range_succ, List.filter_append, List.map_append,
        List.filter_cons, e]
      rfl
    | false =>
      rw [if_neg Bool.false_ne_true]
      refine ⟨rfl, ?_⟩
      rw [List.range_succ, List.filter_append, List.map_append,
        List.filter_cons, e]
      simp
  · intro n acc hI
    obtain ⟨rfl, rfl⟩ := hI
    exact hq
/-- x = [..] * n that will be written -/
theorem s_repOwn {i : Nat} (h : EvC K l ta ρ m fun m1 x => EvC K l te ρ m1
      fun m2 y => ∃ xs, x = .lst xs ∧ ∃ z, y = .int z ∧ ∃ n : Nat, z = n ∧
        n ≤ 1000 ∧ xs.length ≤ 100 ∧
        Nx m2 (ρ.set i (some (.own (List.replicate n xs).flatten)))) :
    SvC K l (tAsg (tOp rRep ta te) (gName i)) ρ m Nx Rt := by
  intro Z B H σ W ok k _
  refine h Z B H σ _ ok fun v1 d1 m1 B1 H1 o1 f1 i1 g1 => ?_
  refine g1 Z B1 H1 σ _ o1 fun v2 d2 m2 B2 H2 o2 f2 i2 g2 => ?_
  obtain ⟨xs, rfl, z, rfl, n, rfl, hn, hl, q⟩ := g2
  have i1' := i1.mono f2.sub
  cases i2
  cases i1' with
  | @lst a vs _ ha isa =>
    refine ⟨a, n, vs, rfl, rfl, o2.sub _ _ ha, by omega, by omega, ?_,
      fun p hp => ?_⟩
    · rw [isa.length, Int.toNat_natCast, sizeLine_eq]
      have : xs.length * n ≤ 100 * 1000 := Nat.mul_le_mul hl hn
      omega
    · rw [Int.toNat_natCast]
      have hz : ¬ Z p := fun z => (o2.zs p z).1 hp
      refine k _ _ m2 B2 _ ((o2.aside
        (o := .lst (List.replicate n vs).flatten) hp).setOwn
        hz upd_same (isa.rep n)) ((f1.trans f2).trans
        ⟨Same.refl B2, fun z hz' => upd_ne fun e => hz (e ▸ hz')⟩) q
theorem IsAll.setAt {vs : List V} {ds : List D} {v : V} {d : D}
    (h : IsAll K B vs ds) (hv : Is K B v d) :
    ∀ n : Nat, IsAll K B (vs.set n v) (ds.set n d) := by
  intro n
  induction vs generalizing ds n with
  | nil => cases h; exact .nil
  | cons x xs ih =>
    cases h with
    | cons h1 h2 =>
      cases n with
      | zero => exact .cons hv h2
      | succ n => exact .cons h1 (ih h2 n)
theorem IsAll.erase {vs : List V} {ds : List D} (h : IsAll K B vs ds) :
    ∀ n : Nat, IsAll K B (vs.eraseIdx n) (ds.eraseIdx n) := by
  intro n
  induction vs generalizing ds n with
  | nil => cases h; exact .nil
  | cons x xs ih =>
    cases h with
    | cons h1 h2 =>
      cases n with
      | zero => exact h2
      | succ n => exact .cons h1 (ih h2 n)
/-- x[e] = v of an own list -/
theorem s_setOwn {i : Nat} {ds : List D} (hi : ρ[i]? = some (some (.own ds)))
    (h : EvC K l te ρ m fun m1 d => EvC K l ti ρ m1 fun m2 x => ∃ z,
      x = .int z ∧ ∃ k : Nat, z = k ∧ k < ds.length ∧
      Nx m2 (ρ.set i (some (.own (ds.set k d))))) :
    SvC K l (tAsg te (gSub (tVar i) ti rSetL)) ρ m Nx Rt := by
  intro Z B H σ W ok k _
  refine h Z B H σ _ ok fun v1 d1 m1 B1 H1 o1 f1 i1 g1 => ?_
  obtain ⟨v, e1, a, xs, rfl, q1, q2, q3, q4, q5⟩ := o1.sl i _ hi
  refine ⟨_, e1, ?_⟩
  refine g1 Z B1 H1 σ _ o1 fun v2 d2 m2 B2 H2 o2 f2 i2 g2 => ?_
  obtain ⟨z, rfl, c, rfl, hc, q⟩ := g2
  cases i2
  obtain ⟨v', e1', a', xs', hv, w1, w2, w3, w4, w5⟩ := o2.sl i _ hi
  subst hv
  rw [e1] at e1'
  cases e1'
  refine ⟨a, xs', c, c, rfl, rfl, w1, ?_, ?_⟩
  · unfold ixN
    rw [if_pos (by omega), w5.length]
    first
      | (rw [if_pos (by omega)]; simp)
      | simp [hc]
      | omega
  · obtain ⟨o3, f3⟩ := o2.grow hi e1 (w5.setAt (i1.mono f2.sub) c)
    exact k _ _ m2 B2 _ o3 ((f1.trans f2).trans f3) q
/-- t[a:b] of a list -/
theorem e_slL {tl th : TO}
    (h : EvC K l te ρ m fun m1 x => OvC K l tl ρ m1 fun m2 lo =>
      OvC K l th ρ m2 fun m3 hi => ∃ ds, x = .lst ds ∧
        Φ m3 (.lst (cutD ds lo hi))) :
    EvC K l (tSl (rSlL K) te tl th) ρ m Φ := by
  intro Z B H σ Q ok k
  refine h Z B H σ _ ok fun v x m1 B1 H1 o1 f1 i1 g1 => ?_
  refine g1 Z B1 H1 σ _ o1 fun lo m2 B2 H2 o2 f2 g2 => ?_
  refine g2 Z B2 H2 σ _ o2 fun hi m3 B3 H3 o3 f3 g3 => ?_
  obtain ⟨ds, rfl, q⟩ := g3
  have i3 := i1.mono (f2.trans f3).sub
  cases i3 with
  | @lst a us _ h r =>
    refine ⟨a, us, rfl, SqL.of (o3.sub _ _ h), fun p hp => ?_⟩
    obtain ⟨o4, f4⟩ := o3.new (o := .lst (cutV us lo hi)) hp
    exact k _ _ m3 _ _ o4 ((f1.trans (f2.trans f3)).trans f4)
      (.lst upd_same ((r.mono f4.sub).cut lo hi)) q
end
end Wt

namespace Wt
open PySem PySem.Spec PyProof.Rows L2
section
variable {K : PySem.W.Frag} {l : Option Addr} {ρ : Ro} {m : Nat}
variable {Nx : Nat → Ro → Prop} {Rt : Nat → D → Prop}
variable {Z : Addr → Prop} {B H : Hp} {σ : L2.St}
theorem ints_of : ∀ {xs : List V} {L : List Int},
    IsAll K B xs (L.map D.int) → xs = L.map V.int
  | _, [], h => by cases h; rfl
  | _, n :: L, h => by
    cases h with
    | cons h r => cases h; rw [ints_of r]; rfl
end
section
variable {X : Cx} {K : PySem.W.Frag} {o e : Expr} {es : List Expr} {to : TE}
variable {t : TA} {name : Str} {apos cpos : Pos} {T id : String}
variable {r : V → List V → Hp → VK → Prop}
end
section
variable {K : PySem.W.Frag} {l : Option Addr} {ρ : Ro} {m : Nat}
variable {Φ : Nat → D → Prop}
theorem eqs_int (i : Int) : Eqs (.int i) :=
  ⟨rfl, by
    unfold SeqAt.shaped
    rw [flat_lay (.int i) rfl, decide_eq_true (by simp [D.py, PyData.depth])]; rfl⟩
theorem eqv_int (i j : Int) : PyData.eqv (D.int i).py (D.int j).py =
    decide (i = j) := by
  rw [Bool.eq_iff_iff, eqv_iff _ _ rfl rfl, decide_eq_true_eq, D.int.injEq]
theorem v_eqDi {i j : Int} (q : Φ m (.bl (decide (i = j)))) :
    VvC K l ρ (fun vs H Q => ∃ x y, vs = [x, y] ∧ rEqD K x y H Q)
      [.int i, .int j] m Φ :=
  v_eqD (eqs_int i) (eqs_int j) (by rw [eqv_int]; exact q)
theorem v_neDi {i j : Int} (q : Φ m (.bl (!decide (i = j)))) :
    VvC K l ρ (fun vs H Q => ∃ x y, vs = [x, y] ∧ rNeD K x y H Q)
      [.int i, .int j] m Φ :=
  v_neD (eqs_int i) (eqs_int j) (by rw [eqv_int]; exact q)
end
end Wt

namespace Wt
open PySem PySem.Spec PyProof.Rows L2
section
variable {prog : Program} {w : World} {A : Around}
variable {E : Value → Shared → Prop} {s : Shared}
end
section
variable {X : Cx}
variable {K : PySem.W.Frag} {o e : Expr} {es : List Expr} {to : TE}
variable {t : TA} {name : Str} {apos cpos : Pos} {T id : String}
variable {r : V → List V → Hp → VK → Prop}
theorem pe_bmK (hK : X.K = K) (pa : PlainAttrs T) (slot : Slot T name id)
    (hty : typeOf (.builtin id) = pure (.type "method_descriptor"))
    (hm : MtR X id r) (ho : PE X o to) (ha : PA X (e :: es) t)
    (hbase : attributeBase o name X.env (eval o X.env) =
      eval o X.env := by rfl)
    (hfew : ((backTo cpos (starEach (e :: es) X.env)).all (fun x => !x.1) &&
      (backToKw cpos (keywordEach [] X.env)).all (fun x => x.1.isSome) &&
      decide ((e :: es).length + ([] : List Keyword).length +
        (if ([] : List Keyword).isEmpty then 0 else 1) < 30)) = true := by rfl)
    (hline : (apos.endLine == cpos.line) = true := by rfl)
    (hs : starEach (e :: es) X.env =
      (false, eval e X.env) :: starEach es X.env := by rfl)
    (hplain : (backTo cpos (starEach es X.env)).any (·.1) = false := by rfl) :
    PE X (.Call (.Attribute o name apos) (e :: es) [] cpos)
      (tBM K T r to t) := by
  subst hK
  exact pe_bm pa slot hty hm ho ha hbase hfew hline hs hplain
end
section
variable {K : PySem.W.Frag} {l : Option Addr} {ρ : Ro} {m : Nat}
variable {Φ : Nat → D → Prop} {ta te : TE} {tA : TA}
/-- tuple(own) -/
theorem e_tupOwn {i : Nat} {ds : List D} (hi : ρ[i]? = some (some (.own ds)))
    (q : Φ m (.tup ds)) :
    EvC K l (tCB (rTupC K) (tCons (tVar i) tNil)) ρ m Φ := by
  intro Z B H σ Q ok k
  obtain ⟨v, e1, a, xs, rfl, q1, q2, q3, q4, q5⟩ := ok.sl i _ hi
  refine ⟨_, e1, a, xs, rfl, .inl ⟨SqL.of q1, fun p ob hp hd _ => ?_⟩⟩
  obtain ⟨o2, f2⟩ := ok.new (o := .frz ob (.tup xs)) hp
  exact k _ _ m _ _ o2 f2 (.newT upd_same hd (q5.mono f2.sub)) q
variable {Nx : Nat → Ro → Prop} {Rt : Nat → D → Prop}
/-- a, b = x, [] where b will grow -/
theorem s_parOwnR {i j : Nat} (hij : i ≠ j)
    (h : EvC K l te ρ m fun m1 y =>
      Nx m1 ((ρ.set i (some (.dat y))).set j (some (.own [])))) :
    SvC K l (tPar i j (tCons te (tCons (tLst tNil) tNil))) ρ m Nx Rt := by
  intro Z B H σ W ok kk _
  refine h Z B H σ _ ok fun v d m1 B1 H1 o1 f1 i1 g1 => ?_
  refine ⟨Nat.zero_le _, fun p hp => ?_⟩
  have hz : ¬ Z p := fun z => (o1.zs p z).1 hp
  have o2 := ((o1.aside (o := .lst []) hp).set (i := i) i1).setOwn (i := j)
    (ds := []) hz upd_same .nil
  exact ⟨v, .ref p, rfl, kk _ _ m1 B1 _ o2 (f1.trans
    ⟨Same.refl B1, fun z hz' => upd_ne fun e => hz (e ▸ hz')⟩) g1⟩
end
end Wt

namespace Wt
open PySem PySem.Spec PyProof.Rows L2 PySem.Calls
structure ZSt (xs ys : Array Value) (z TI TO i1 i2 l1 l2 S : Addr) (i : Nat) (h : Heap) : Prop where
  ti : IsPair h TI (.ref i1) (.ref i2)
  a1 : h.IsListIter i1 l1 i
  a2 : h.IsListIter i2 l2 i
  b1 : h.IsList l1 xs
  b2 : h.IsList l2 ys
  z : (IsZip h z TI TO .none ∧ ∃ a b, IsPair h TO a b) ∨
    ∃ T f oT, IsZipHeld h z TI TO T f ∧ h.get? T = some oT ∧ T ≠ z ∧ T ≠ i1 ∧ T ≠ i2 ∧ T ≠ S
section
variable {prog : Program} {w : World} {A : Around} {E : Value → Shared → Prop} {s : Shared}
variable {z TI TO i1 i2 l1 l2 S : Addr} {xs ys : Array Value}
theorem ZSt.keep {h h' : Heap} {i : Nat} (t : ZSt xs ys z TI TO i1 i2 l1 l2 S i h)
    (k : ∀ b o, b ≠ S → h.get? b = some o → h'.get? b = some o)
    (n : z ≠ S ∧ TI ≠ S ∧ TO ≠ S ∧ i1 ≠ S ∧ i2 ≠ S ∧ l1 ≠ S ∧ l2 ≠ S) :
    ZSt xs ys z TI TO i1 i2 l1 l2 S i h' := by
  obtain ⟨n1, n2, n3, n4, n5, n6, n7⟩ := n
  refine ⟨k _ _ n2 t.ti, t.a1.at fun o e => k _ _ n4 e, t.a2.at fun o e => k _ _ n5 e,
    t.b1.at fun o e => k _ _ n6 e, t.b2.at fun o e => k _ _ n7 e, ?_⟩
  rcases t.z with ⟨q, a, b, r⟩ | ⟨T, f, oT, q, r, m1, m2, m3, m4⟩
  · exact .inl ⟨k _ _ n1 q, a, b, k _ _ n3 r⟩
  · exact .inr ⟨T, f, oT, k _ _ n1 q, k _ _ m4 r, m1, m2, m3, m4⟩
end
theorem far {c S : Nat} (h : c < S) (k : Nat) : S + k ≠ c := by omega
section
variable {prog : Program} {w : World} {A : Around} {s : Shared}
variable {R : Result → Shared → Prop}
variable {z TI TO i1 i2 l1 l2 : Addr} {S : Nat} {xs ys : Array Value}
end
section
variable {prog : Program} {w : World} {A : Around} {E : Value → Shared → Prop}
variable {s : Shared} {z TI TO i1 i2 l1 l2 : Addr} {xs ys : Array Value}
end
section
variable {X : Cx} {pins : List (Addr × Obj)} {σ : L2.St} {H H' : Hp} {s : Shared}
end
section
variable {K : PySem.W.Frag} {l : Option Addr} {ρ : Ro} {m : Nat}
variable {Φ : Nat → D → Prop} {tA : TA}
end
end Wt

namespace Wt
open PySem PySem.Spec PyProof.Rows L2
section
variable {X : Cx} {tg : Expr}
/-- for x in s, s a list or a tuple -/
def iSeq (K : PySem.W.Frag) (tl : TE) : TI := fun σ H R => tl σ H fun x H1 =>
  ∃ a, x = .ref a ∧ ((∃ xs, SqL K H1 a xs ∧ R (Itl K a) H1) ∨
    ∃ xs, SqT K H1 a xs ∧ R (Itt K a) H1)
theorem pi_seq {e : Expr} {tl : TE} (he : PE X e tl) : PI X tg e (iSeq X.K tl) := by
  constructor
  intro pins s σ H R I h
  refine thn (he.run pins s σ H _ I h) fun v t ⟨x, H1, J, rx, a, ex, q⟩ => ?_
  rw [ex] at rx
  cases rx
  have new : ∀ b ∈ [t.heap.objs.size], FpOk X pins H1 b := fun b hb => by
    cases List.mem_singleton.mp hb
    exact J.fpOk (Nat.le_refl _) (J.hok.fresh (Nat.le_refl _))
  have up : ∀ o b u, t.heap.get? b = some u → (t.heap.push o).get? b = some u :=
    fun o b u z => Heap.get?_push_of_some _ z
  rcases q with ⟨xs, hs, q⟩ | ⟨xs, hs, q⟩
  · obtain ⟨its, _, p, _⟩ := J.list hs
    exact wpAny_pyIter_list p.isList ⟨_, _, _, _, H1, rfl, J.kept (t' := t.toks) (up _),
      turn_list a _, ⟨_, Heap.get?_push_size _ rfl, rfl, rfl⟩, new, q⟩
  · obtain ⟨its, _, p, _⟩ := J.tuple hs
    exact wpAny_pyIter_tuple (items := its.toArray) p ⟨_, _, _, _, H1, rfl,
      J.kept (t' := t.toks) (up _), turn_tuple a _,
      ⟨_, Heap.get?_push_size _ rfl, rfl, rfl⟩, new, q⟩
def rCntT (K : PySem.W.Frag) : V → List V → Hp → VK → Prop := fun x xs H Q =>
  ∃ (p : Addr) (ns : List Int) (k : Int), x = .ref p ∧ xs = [.int k] ∧
    SqT K H p (ns.map V.int) ∧ Q (.int (ns.count k : Nat)) H
theorem mt_cntT : MtR X "tuple.count" (rCntT X.K) := by
  intro pins s σ H x xs v us Q I rx rs h
  obtain ⟨p, ns, k, e1, e2, hs, q⟩ := h
  subst e1 e2
  cases rx
  obtain ⟨u, eu, t, et⟩ := vals1 rs
  subst eu et
  obtain ⟨its, r, ⟨⟨cl, dd, dt, sl⟩, ho, hc, n, hd⟩, _⟩ := I.tuple hs
  simp only at hc hd
  subst hc hd
  have hi := ints_of_vals r
  refine call_meets PySem.F.slot_tuple_count ⟨_, ho, rfl⟩ PySem.F.entry_tuple_count
    (PySem.F.args_tuple_count_2 _ _)
    (SeqAt.tuple_countAt p its.toArray n dd sl (.int k t) (eqk k))
    ⟨ho, fun y hy => (eqk_gives hi y (by simpa using hy)).at _ _, ?_⟩
  have ec : its.toArray.toList.countP (eqk k) = ns.count k := eqk_count hi
  rw [ec]
  exact ⟨.int (ns.count k : Nat), H, I.tok _, ⟨_, rfl⟩, q⟩
end
section
variable {K : PySem.W.Frag} {l : Option Addr} {ρ : Ro} {m : Nat}
variable {Φ : Nat → D → Prop} {Nx : Nat → Ro → Prop} {Rt : Nat → D → Prop}
variable {ta te tl : TE} {tb : TS} {tt : TT}
theorem s_forS {j : Nat}
    (h : EvC K l tl ρ m fun m1 x => ∃ ds, (x = .lst ds ∨ x = .tup ds) ∧
      ∃ I : Nat → Nat → Ro → Prop, I 0 m1 ρ ∧
      (∀ i n ρ' d, ds[i]? = some d → I i n ρ' →
        SvC K l tb (ρ'.set j (some (.dat d))) n (fun n2 ρ2 =>
          I (i + 1) n2 ρ2) Rt) ∧
      ∀ n ρ', I ds.length n ρ' → Nx n ρ') :
    SvC K l (tFor (iSeq K tl) (gName j) tb) ρ m Nx Rt := by
  intro Z B H σ W ok k jr
  refine h Z B H σ _ ok fun v x m1 B1 H1 o1 f1 i1 g1 => ?_
  obtain ⟨ds, e, I, h0, hs, hd⟩ := g1
  rcases e with rfl | rfl
  · cases i1 with
    | @lst a xs ds hT is =>
      refine ⟨a, rfl, .inl ⟨xs, SqL.of (o1.sub _ _ hT), ?_⟩⟩
      refine for_list (xs := xs) (fun i σ' H' => ∃ n ρ' B',
        Ok K l Z n B' H' σ' ρ' ∧ Fr Z B1 H1 B' H' ∧ I i n ρ')
        ⟨m1, ρ, B1, o1, Fr.refl, h0⟩ (fun i σ' H' _ w => ?_)
        (fun i x σ' H' e w => ?_) fun σ' H' w => ?_
      · obtain ⟨n, ρ', B', ok', fr', _⟩ := w
        exact SqL.of (ok'.sub _ _ (fr'.sub _ _ hT))
      · obtain ⟨n, ρ', B', ok', fr', hI⟩ := w
        obtain ⟨d, e2, q⟩ := (is.mono fr'.sub).get e
        refine hs i n ρ' d e2 hI Z B' H' _ _ (ok'.set q)
          (fun σ2 ρ2 m2 B2 H2 o2 f2 g2 => ⟨m2, ρ2, B2, o2, fr'.trans f2, g2⟩)
          fun v d m2 B2 H2 o2 f2 i2 g2 => ?_
        exact jr v d m2 B2 H2 o2 ((f1.trans fr').trans f2) i2 g2
      · obtain ⟨n, ρ', B', ok', fr', hI⟩ := w
        rw [is.length] at hI
        exact k σ' ρ' n B' H' ok' (f1.trans fr') (hd n ρ' hI)
  · cases i1 with
    | @tup a xs ds hT is =>
      refine ⟨a, rfl, .inr ⟨xs, sameT o1.sub hT, ?_⟩⟩
      refine for_tup (xs := xs) (fun i σ' H' => ∃ n ρ' B',
        Ok K l Z n B' H' σ' ρ' ∧ Fr Z B1 H1 B' H' ∧ I i n ρ')
        ⟨m1, ρ, B1, o1, Fr.refl, h0⟩ (fun i σ' H' _ w => ?_)
        (fun i x σ' H' e w => ?_) fun σ' H' w => ?_
      · obtain ⟨n, ρ', B', ok', fr', _⟩ := w
        exact sameT ok'.sub (sameT fr'.sub hT)
      · obtain ⟨n, ρ', B', ok', fr', hI⟩ := w
        obtain ⟨d, e2, q⟩ := (is.mono fr'.sub).get e
        refine hs i n ρ' d e2 hI Z B' H' _ _ (ok'.set q)
          (fun σ2 ρ2 m2 B2 H2 o2 f2 g2 => ⟨m2, ρ2, B2, o2, fr'.trans f2, g2⟩)
          fun v d m2 B2 H2 o2 f2 i2 g2 => ?_
        exact jr v d m2 B2 H2 o2 ((f1.trans fr').trans f2) i2 g2
      · obtain ⟨n, ρ', B', ok', fr', hI⟩ := w
        rw [is.length] at hI
        exact k σ' ρ' n B' H' ok' (f1.trans fr') (hd n ρ' hI)
/-- t.count(x) -/
theorem e_cntT (h : EvC K l ta ρ m fun m1 x => ∃ ns : List Int,
      x = .tup (ns.map D.int) ∧ EvC K l te ρ m1 fun m2 y =>
        ∃ n : Int, y = .int n ∧ Φ m2 (.int (ns.count n : Nat))) :
    EvC K l (tBMT (rCntT K) ta (tCons te tNil)) ρ m Φ := by
  intro Z B H σ Q ok k
  refine h Z B H σ _ ok fun v x m1 B1 H1 o1 f1 i1 g1 => ?_
  obtain ⟨ns, rfl, g1⟩ := g1
  cases i1 with
  | @tup a us _ hu r hc =>
    cases ints_of r
    refine ⟨a, rfl, hc.mono o1.sub, ?_⟩
    refine g1 Z B1 H1 σ _ o1 fun v2 y m2 B2 H2 o2 f2 i2 g2 => ?_
    obtain ⟨n, rfl, q⟩ := g2
    cases i2
    exact ⟨a, ns, n, rfl, rfl, sameT o2.sub (sameT f2.sub hu),
      k _ _ m2 B2 H2 o2 (f1.trans f2) (.int _) q⟩
end
end Wt

namespace Wt
open PySem PySem.Spec PyProof.Rows L2
section
variable {P : Program} {w : World} {K : PySem.W.Frag}
variable {mg : Str → Option Value} {base : Heap} {CX : CXT}
variable {k : Nat} {f : Addr} {fd : FuncData} {ps : List Str} {sp : Sp}
end
def D.num : D → Option Int
  | .int i => some i
  | .bl b => some (if b = true then 1 else 0)
  | _ => none
section
variable {X : Cx}
end
section
variable {K : PySem.W.Frag} {l : Option Addr} {ρ : Ro} {m : Nat} {Φ : Nat → D → Prop}
variable {Nx : Nat → Ro → Prop} {Rt : Nat → D → Prop} {tA : TA}
/-- x = [a, b, ..] that will grow -/
theorem s_ownL {i : Nat} (h : AvC K l tA ρ m fun m1 ds => ds.length ≤ 100000 ∧
      Nx m1 (ρ.set i (some (.own ds)))) : SvC K l (tAsg (tLst tA) (gName i)) ρ m Nx Rt := by
  intro Z B H σ W ok k _
  refine h Z B H σ _ ok fun vs ds m1 B1 H1 o1 f1 i1 g1 => ?_
  refine ⟨by rw [i1.length]; exact Nat.le_trans g1.1 (by decide), fun p hp => ?_⟩
  have hz : ¬ Z p := fun z => (o1.zs p z).1 hp
  exact k _ _ m1 B1 _ ((o1.aside (o := .lst vs) hp).setOwn hz upd_same i1) (f1.trans
    ⟨Same.refl B1, fun z hz' => upd_ne fun e => hz (e ▸ hz')⟩) g1.2
end
structure Its (k w : Nat) (xs : List D) : Prop where
  plain : D.plains xs = true
  able : PyData.showableAll (D.pys xs) = true
  deep : PyData.depthAll (D.pys xs) ≤ k
  short : PyData.leavesShortAll 60 (D.pys xs) = true
  wt : PyData.weightAll (D.pys xs) ≤ w
section
variable {k w k' w' : Nat} {xs ys : List D} {x : D}
theorem Its.up (h : Its k w xs) (hk : k ≤ k') (hw : w ≤ w') : Its k' w' xs :=
  ⟨h.plain, h.able, Nat.le_trans h.deep hk, h.short, Nat.le_trans h.wt hw⟩
theorem Its.tup (h : Its k w xs) : Itm (k + 1) w (.tup xs) := by
  refine ⟨by rw [D.plain]; exact h.plain, by rw [D.py, PyData.showable]; exact h.able, ?_,
    by rw [D.py, PyData.leavesShort]; exact h.short, by rw [D.py, PyData.weight]; exact h.wt⟩
  rw [D.py, PyData.depth]
  have := h.deep
  omega
theorem Its.lst (h : Its k w xs) : Itm (k + 1) w (.lst xs) := by
  refine ⟨by rw [D.plain]; exact h.plain, by rw [D.py, PyData.showable]; exact h.able, ?_,
    by rw [D.py, PyData.leavesShort]; exact h.short, by rw [D.py, PyData.weight]; exact h.wt⟩
  rw [D.py, PyData.depth]
  have := h.deep
  omega
theorem Itm.its (h : Itm (k + 1) w (.tup xs)) : Its k w xs := by
  have h1 := h.plain
  have h2 := h.able
  have h3 := h.deep
  have h4 := h.short
  have h5 := h.wt
  rw [D.plain] at h1
  rw [D.py, PyData.showable] at h2
  rw [D.py, PyData.depth] at h3
  rw [D.py, PyData.leavesShort] at h4
  rw [D.py, PyData.weight] at h5
  exact ⟨h1, h2, by omega, h4, h5⟩
theorem Itm.deep1 (h : Itm k w (.tup xs)) : 1 ≤ k := by
  have h3 := h.deep
  rw [D.py, PyData.depth] at h3
  omega
theorem Its.nil : Its 0 0 [] := ⟨rfl, rfl, Nat.le_refl _, rfl, Nat.le_refl _⟩
theorem Its.cons (h : Itm k w x) (r : Its k w' xs) : Its k (w + 1 + w') (x :: xs) := by
  refine ⟨by rw [D.plains, h.plain, r.plain]; rfl, by rw [D.pys, PyData.showableAll, h.able, r.able]; rfl, ?_,
    by rw [D.pys, PyData.leavesShortAll, h.short, r.short]; rfl, ?_⟩
  · rw [D.pys, PyData.depthAll]
    exact Nat.max_le.mpr ⟨h.deep, r.deep⟩
  · rw [D.pys, PyData.weightAll]
    have := h.wt
    have := r.wt
    omega
theorem Its.head (r : Its k w (x :: xs)) : Itm k w x ∧ Its k w xs ∧
    x.py.weight + 1 + PyData.weightAll (D.pys xs) ≤ w := by
  have h1 := r.plain
  have h2 := r.able
  have h3 := r.deep
  have h4 := r.short
  have h5 := r.wt
  rw [D.plains, Bool.and_eq_true] at h1
  rw [D.pys, PyData.showableAll, Bool.and_eq_true] at h2
  rw [D.pys, PyData.depthAll] at h3
  rw [D.pys, PyData.leavesShortAll, Bool.and_eq_true] at h4
  rw [D.pys, PyData.weightAll] at h5
  have h3 := Nat.max_le.mp h3
  exact ⟨⟨h1.1, h2.1, h3.1, h4.1, by omega⟩, ⟨h1.2, h2.2, h3.2, h4.2, by omega⟩, h5⟩
theorem Its.app : ∀ {xs : List D} {w : Nat}, Its k w xs → Its k w' ys → Its k (w + w') (xs ++ ys)
  | [], w, _, r => r.up (Nat.le_refl _) (by omega)
  | x :: xs, w, h, r => by
    obtain ⟨h1, h2, h3⟩ := h.head
    have i := Its.app (xs := xs) (w := PyData.weightAll (D.pys xs)) ⟨h2.plain, h2.able, h2.deep, h2.short, Nat.le_refl _⟩ r
    have j : Its k (x.py.weight + 1 + (PyData.weightAll (D.pys xs) + w')) (x :: (xs ++ ys)) :=
      Its.cons ⟨h1.plain, h1.able, h1.deep, h1.short, Nat.le_refl _⟩ i
    exact j.up (Nat.le_refl _) (by omega)
theorem Its.sub : ∀ {xs ys : List D} {w : Nat}, ys.Sublist xs → Its k w xs → Its k w ys
  | _, _, _, .slnil, h => h
  | _, _, _, .cons a s, h => Its.sub s h.head.2.1
  | _, _, w, .cons₂ (l₂ := ys) (l₁ := zs) a s, h => by
    obtain ⟨h1, h2, h3⟩ := h.head
    have i := Its.sub s (w := PyData.weightAll (D.pys ys)) ⟨h2.plain, h2.able, h2.deep, h2.short, Nat.le_refl _⟩
    have j := Its.cons ⟨h1.plain, h1.able, h1.deep, h1.short, Nat.le_refl _⟩ i
    exact j.up (Nat.le_refl _) (by omega)
theorem Its.mem : ∀ {xs : List D}, Its k w xs → ∀ x ∈ xs, Itm k w x
  | x :: xs, h, y, hy => by
    rcases List.mem_cons.mp hy with q | q
    · rw [q]; exact h.head.1
    · exact Its.mem h.head.2.1 y q
end
section
variable {K : PySem.W.Frag} {l : Option Addr} {ρ : Ro} {m : Nat} {Φ : Nat → D → Prop}
end
mutual
def D.smallB (b : Int) : D → Bool
  | .int i => decide (-b ≤ i) && decide (i ≤ b)
  | .lst xs => D.smalls b xs
  | .tup xs => D.smalls b xs
  | _ => true
def D.smalls (b : Int) : List D → Bool
  | [] => true
  | x :: xs => D.smallB b x && D.smalls b xs
end
/-- data with small numbers, at most so deep, so much -/
structure Sm (b : Int) (k w : Nat) (d : D) : Prop where
  itm : Itm k w d
  sm : d.smallB b = true
structure Sms (b : Int) (k w : Nat) (xs : List D) : Prop where
  its : Its k w xs
  sm : D.smalls b xs = true
section
variable {b c : Int} {k w k' w' : Nat} {xs ys : List D} {x d : D}
theorem smalls_iff : ∀ {xs : List D}, D.smalls b xs = true ↔ ∀ x ∈ xs, x.smallB b = true
  | [] => by simp [D.smalls]
  | x :: xs => by
    rw [D.smalls, Bool.and_eq_true, smalls_iff (xs := xs)]
    simp
mutual
theorem smallB_up (h : b ≤ c) : ∀ d : D, d.smallB b = true → d.smallB c = true
  | .int i, q => by
    rw [D.smallB, Bool.and_eq_true, decide_eq_true_eq, decide_eq_true_eq] at q ⊢
    omega
  | .lst xs, q => by rw [D.smallB] at q ⊢; exact smalls_up h xs q
  | .tup xs, q => by rw [D.smallB] at q ⊢; exact smalls_up h xs q
  | .non, _ | .bl _, _ | .str _, _ | .dic _, _ | .ins _ _ _, _ | .scr _, _ | .dct _ _, _ => rfl
theorem smalls_up (h : b ≤ c) : ∀ xs : List D, D.smalls b xs = true → D.smalls c xs = true
  | [], _ => rfl
  | x :: xs, q => by
    rw [D.smalls, Bool.and_eq_true] at q ⊢
    exact ⟨smallB_up h x q.1, smalls_up h xs q.2⟩
end
theorem Sm.up (h : Sm b k w d) (hb : b ≤ c) (hk : k ≤ k') (hw : w ≤ w') : Sm c k' w' d :=
  ⟨h.itm.mono hk hw, smallB_up hb d h.sm⟩
theorem Sms.up (h : Sms b k w xs) (hb : b ≤ c) (hk : k ≤ k') (hw : w ≤ w') : Sms c k' w' xs :=
  ⟨h.its.up hk hw, smalls_up hb xs h.sm⟩
theorem Sms.tup (h : Sms b k w xs) : Sm b (k + 1) w (.tup xs) := ⟨h.its.tup, h.sm⟩
theorem Sms.lst (h : Sms b k w xs) : Sm b (k + 1) w (.lst xs) := ⟨h.its.lst, h.sm⟩
theorem Sm.sms (h : Sm b (k + 1) w (.tup xs)) : Sms b k w xs := ⟨h.itm.its, h.sm⟩
theorem Sms.nil : Sms b 0 0 [] := ⟨Its.nil, rfl⟩
theorem Sms.one (h : Sm b k w x) : Sms b k (w + 1) [x] :=
  ⟨(Its.cons h.itm (Its.nil.up (Nat.zero_le k) (Nat.le_refl 0))).up (Nat.le_refl _) (by omega),
    by rw [D.smalls, h.sm]; rfl⟩
theorem Sms.app (h : Sms b k w xs) (r : Sms b k w' ys) : Sms b k (w + w') (xs ++ ys) :=
  ⟨h.its.app r.its, smalls_iff.mpr fun x hx => (List.mem_append.mp hx).elim
    (smalls_iff.mp h.sm x) (smalls_iff.mp r.sm x)⟩
theorem Sms.sub (h : Sms b k w xs) (s : ys.Sublist xs) : Sms b k w ys :=
  ⟨h.its.sub s, smalls_iff.mpr fun x hx => smalls_iff.mp h.sm x (s.subset hx)⟩
theorem Sms.mem (h : Sms b k w xs) (hx : x ∈ xs) : Sm b k w x :=
  ⟨h.its.mem x hx, smalls_iff.mp h.sm x hx⟩
theorem Its.len : ∀ {xs : List D} {w : Nat}, Its k w xs → xs.length ≤ w
  | [], _, _ => Nat.zero_le _
  | x :: xs, w, h => by
    obtain ⟨_, h2, h3⟩ := h.head
    have := Its.len (xs := xs) (w := PyData.weightAll (D.pys xs)) ⟨h2.plain, h2.able, h2.deep, h2.short, Nat.le_refl _⟩
    rw [List.length_cons]
    omega
end
end Wt

namespace Wt
open PySem PySem.Spec PyProof.Rows L2
section
variable {X : Cx}
end
section
variable {K : PySem.W.Frag} {l : Option Addr} {ρ : Ro} {m : Nat} {Φ : Nat → D → Prop} {ta : TE}
end
end Wt

namespace Wt
open PySem PySem.Spec PyProof.Rows L2
section
variable {P : Program} {w : World} {K : PySem.W.Frag} {mg : Str → Option Value} {base : Heap}
/-- a def of the text with defaults -/
abbrev FunT (K : PySem.W.Frag) (x qual : Str) (st : Stmt) (dvs : List V) (f : Addr) (fd : FuncData) : Prop :=
  FunD K x qual (defArgs st) (defBody st) (defScope st) dvs [] f fd
theorem okT {x qual : Str} {st : Stmt} {dvs : List V} {f : Addr} {fd : FuncData} {N ps : List Str} {k : Nat} {sp : Sp}
    (F : FunT K x qual st dvs f fd) (S : FnScope N ps (defScope st)) (len : ∀ vs H Q E, sp vs H Q E → vs.length = ps.length)
    (hbody : ∀ (cdv : Value) (A : Around) (outer : List Env) (s : Shared) (H : Hp) (vs : List V) (Q : VK) (E : XK),
      Room k (A.deeper (envOfC qual (defScope st) s.heap.objs.size f cdv)) → sp vs H Q E →
      ∃ t, PSs (cxOf CX0 P w K mg base N qual (defScope st) f cdv A outer s H E).nox (defBody st) t ∧
        t { nx := fun _ H' => Q .non H', rt := Q } (start N vs) H) : FnOk P w K mg base CX0 (k + 1) f fd ps sp := by
  refine FunD.ok F S len fun cdv A outer s H vs Q E hr hsp => ?_
  obtain ⟨t, h, q⟩ := hbody cdv A outer s H vs Q E hr hsp
  exact ⟨t, h.nox, q⟩
theorem funT_mk {x qual : Str} {st : Stmt} {f T : Addr} {oc oc2 : Value} {od od2 an : Option Addr} {osl osl2 : Array (Option Value)}
    {kV doc pm cdv ct : Value} {its : List Value} {n : Nat} {dvs : List V} (hd : dvs ≠ []) (hv : Vals dvs its)
    (l : K.lookup f = some ⟨oc, od, .func (PySem.W.fnOf x qual (defArgs st) (defBody st) (defScope st) (.ref T) kV doc pm an cdv ct), osl⟩)
    (lT : K.lookup T = some ⟨oc2, od2, .seq its.toArray n, osl2⟩)
    (c : PySem.W.codeIn K cdv qual = true) (k : PySem.W.keepIn K (.ref f) = true) :
    FunT K x qual st dvs f (PySem.W.fnOf x qual (defArgs st) (defBody st) (defScope st) (.ref T) kV doc pm an cdv ct) :=
  ⟨⟨oc, od, _, kV, doc, pm, an, cdv, ct, osl, rfl, l, c, .inr ⟨hd, T, _, its, n, rfl, lT, rfl, hv⟩, .inl rfl⟩, k⟩
end
section
variable {K : PySem.W.Frag} {l : Option Addr} {ρ : Ro} {m : Nat}
variable {Φ : Nat → D → Prop} {tA : TA}
theorem isAll_app {B : Hp} {us : List V} {es : List D} (h : IsAll K B us es) : ∀ {vs : List V} {ds : List D}, IsAll K B vs ds → IsAll K B (vs ++ us) (ds ++ es)
  | [], [], .nil => h
  | _ :: _, _ :: _, .cons a r => .cons a (isAll_app h r)
theorem e_callPd {pre : List D → Prop} {F : List D → D} {E : XK} {dvs : List V} {dd : List D} (hd : ∀ B, IsAll K B dvs dd)
    (h : AvC K l tA ρ m fun m1 ds => pre (ds ++ dd) ∧ Φ m1 (F (ds ++ dd))) :
    EvC K l (tCall (SpP K pre F) dvs E tA) ρ m Φ := by
  intro Z B H σ Q ok k
  refine h Z B H σ _ ok fun vs ds m1 B1 H1 o1 f1 i1 g1 => ?_
  have i2 : IsAll K B1 (vs ++ dvs) (ds ++ dd) := isAll_app (hd _) i1
  exact v_P g1.1 g1.2 Z B1 H1 σ _ Q o1 i2 fun v d m2 B2 H2 o2 f2 i2 g2 =>
    k v d m2 B2 H2 o2 (f1.trans f2) i2 g2
theorem e_callPi {pre : List D → Prop} {F : List D → D} {E : XK} {i : Int}
    (h : AvC K l tA ρ m fun m1 ds => pre (ds ++ [.int i]) ∧ Φ m1 (F (ds ++ [.int i]))) :
    EvC K l (tCall (SpP K pre F) [.int i] E tA) ρ m Φ := e_callPd (dd := [.int i]) (fun _ => .cons (.int _) .nil) h
end
section
variable {K : PySem.W.Frag} {l : Option Addr} {ρ : Ro} {m : Nat}
variable {Φ : Nat → D → Prop} {Nx : Nat → Ro → Prop} {Rt : Nat → D → Prop} {ts tb : TS} {ta te tl : TE}
end
end Wt

namespace Wt
open PySem PySem.Spec PyProof.Rows L2
/-- c is how many unlike numbers there are among ns -/
def Dist (ns : List Int) (c : Nat) : Prop :=
  ∃ L : List Int, L.Nodup ∧ (∀ k, k ∈ L ↔ k ∈ ns) ∧ c = L.length
def tLenSetN (K : PySem.W.Frag) (ta : TE) : TE := fun σ H Q =>
  ta σ H fun x H1 => ∃ (l : Addr) (ns : List Int), x = V.ref l ∧
    SqT K H1 l (ns.map V.int) ∧ ns.length < 4000 ∧
    ∀ c, Dist ns c → Q (.int c) H1
section
variable {X : Cx}
theorem pe_lenSetN {a : Expr} {ta : TE} {p p2 q pos : Pos}
    (hc : X.calm = true) (h1 : Gl X "len") (h2 : X.mg "len" = none)
    (h3 : Gl X "set") (h4 : X.mg "set" = none) (ha : PE X a ta)
    (na : starEach [a] X.env =
      (false, eval a X.env) :: starEach [] X.env := by rfl) :
    PE X (.Call (.Name "len" p) [.Call (.Name "set" p2) [a] [] q] [] pos)
      (tLenSetN X.K ta) := by
  constructor
  intro pins s σ H Q I h
  refine Call_ (ld_blt I h1 h2
    PySem.boot_len ?_)
  refine callWith_builtin1
    (args_cons ?_ rfl) rfl rfl
  refine Call_ (ld_blt I h3 h4
    PyProof.Rows.boot_set ?_)
  have go := ha.run pins s σ H _ I h
  refine callWith_type1 (args_cons
    (thn go ?_) na) na rfl
  intro v s1 ⟨x, H1, I1, r1, z⟩
  refine args_nil ?_
  obtain ⟨l, ns, rfl, hq, hl, z⟩ := z
  cases r1
  obtain ⟨its, r, pl, _⟩ := I1.tuple hq
  refine call_set_tupI ns (I1.ok.hd hc) pl
    (by simpa using r.ints) (by unfold scanBound; omega) ?_
  intro h' tk c hS hcl hk
  refine args_nil ?_
  obtain ⟨o, es, ep, t, ho, hex, hd, _, nd, mm, hb, hf, hn, _⟩ := hS
  have I2 : Inv X pins σ H1 { s1 with heap := h', toks := tk } :=
    I1.kept hk
  have hD : Dist ns c := ⟨es.toList.map keyOf, nd, fun k => by
    rw [← mm k, decide_eq_true_eq], by
    rw [List.length_map, Array.length_toList, hn]⟩
  refine call_len_set ho hex hd hf
    (by rw [hn]; unfold scanBound at *; omega) ?_
  exact ⟨.int c, H1, I2.tok _, ⟨_, by rw [hn]⟩, z c hD⟩
end
section
variable {K : PySem.W.Frag} {l : Option Addr} {ρ : Ro} {m : Nat}
variable {Φ : Nat → D → Prop} {ta : TE}
theorem isAll_nums {B : Hp} : ∀ {vs : List V} {ns : List Int},
    IsAll K B vs (ns.map D.int) → vs = ns.map V.int
  | [], [], _ => rfl
  | _ :: _, _ :: _, .cons (.int _) r => by
    rw [List.map_cons, ← isAll_nums r]
theorem e_lenSetN (h : EvC K l ta ρ m fun m1 d => ∃ ns : List Int,
      d = .tup (ns.map D.int) ∧ ns.length < 4000 ∧
      ∀ c : Nat, Dist ns c → Φ m1 (.int c)) :
    EvC K l (tLenSetN K ta) ρ m Φ := by
  intro Z B H σ Q ok k
  refine h Z B H σ _ ok fun v d m1 B1 H1 o1 f1 i1 g1 => ?_
  obtain ⟨ns, rfl, hl, hq⟩ := g1
  cases i1 with
  | @tup a vs _ hT is _ =>
    have e := isAll_nums is
    subst e
    exact ⟨a, ns, rfl, sameT o1.sub hT, hl, fun c hc =>
      k _ _ m1 B1 H1 o1 f1 (.int _) (hq c hc)⟩
end
section
variable {K : PySem.W.Frag} {l : Option Addr} {ρ : Ro} {m : Nat}
variable {Nx : Nat → Ro → Prop} {Rt : Nat → D → Prop} {te : TE}
end
end Wt

namespace Wt
open PySem PySem.Spec PyProof.Rows L2
/-- the order by which data rise -/
abbrev leD : D → D → Bool := PySem.W.dataLe false D.py
section
variable {X : Cx}
end
section
variable {K : PySem.W.Frag} {l : Option Addr} {ρ : Ro} {m : Nat}
variable {Φ : Nat → D → Prop}
end
end Wt

namespace Wt
open PySem PySem.Spec PyProof.Rows L2
section
variable {X : Cx}
end
section
variable {K : PySem.W.Frag} {l : Option Addr} {ρ : Ro} {m : Nat}
variable {Nx : Nat → Ro → Prop} {Rt : Nat → D → Prop} {te t1 t2 : TE} {tA : TA}
variable {Φ : Nat → D → Prop}
/-- what a slot holds may be left aside -/
theorem Ok.forget {Z : Addr → Prop} {B H : Hp} {σ : L2.St} {j : Nat} (h : Ok K l Z m B H σ ρ) :
    Ok K l Z m B H σ (ρ.set j none) := by
  have old : ∀ (i : Nat) x, (ρ.set j none)[i]? = some (some x) → ρ[i]? = some (some x) := fun i x q => by
    by_cases e : j = i
    · subst e
      by_cases hl : j < ρ.length
      · rw [List.getElem?_set_self hl] at q; cases q
      · rw [List.getElem?_eq_none (by rw [List.length_set]; omega)] at q; cases q
    · rw [List.getElem?_set_ne e] at q; exact q
  exact ⟨h.toBs, by rw [List.length_set]; exact h.len, fun i s q => h.sl i s (old i s q),
    fun i k ds es a n p1 p2 q1 q2 => h.dis i k ds es a n p1 p2 (old i _ q1) (old k _ q2)⟩
theorem s_forget {ts : TS} (j : Nat) (h : SvC K l ts (ρ.set j none) m Nx Rt) : SvC K l ts ρ m Nx Rt :=
  fun Z B H σ W ok k jr => h Z B H σ W ok.forget k jr
end
end Wt

namespace Wt
open PySem PySem.Spec PyProof.Rows L2
section
variable {prog : Program} {w : World} {A : Around}
variable {E : Value → Shared → Prop} {s : Shared}
end
section
variable {X : Cx}
end
section
variable {K : PySem.W.Frag} {l : Option Addr} {ρ : Ro} {m : Nat}
variable {Φ : Nat → D → Prop}
end
end Wt
namespace Wt
open PySem PySem.Spec PyProof.Rows L2
section
variable {X : Cx}
end
section
variable {K : PySem.W.Frag} {l : Option Addr} {ρ : Ro} {m : Nat}
variable {Φ : Nat → D → Prop} {ta : TE}
end
end Wt

namespace Wt
open PySem PySem.Spec PyProof.Rows L2
section
variable {K : PySem.W.Frag} {l : Option Addr} {ρ : Ro} {m : Nat}
variable {Φ : Nat → D → Prop} {te tl tl2 : TE} {tt : TT}
variable {Z : Addr → Prop} {B H : Hp} {σ : L2.St}
theorem Ok.down {σ' : L2.St} {ρ' : Ro} (h : Ok K l Z m B H σ' ρ') (hl : σ.length = ρ.length)
    (ha : ∀ (k : Nat) x, ρ[k]? = some (some x) → ρ'[k]? = some (some x) ∧ σ[k]? = σ'[k]?) :
    Ok K l Z m B H σ ρ := by
  refine ⟨h.toBs, hl, fun i s q => ?_, fun i j ds es a n p1 p2 q1 q2 e => ?_⟩
  · obtain ⟨q', e⟩ := ha i s q
    rw [e]
    exact h.sl i s q'
  · obtain ⟨q1', e1⟩ := ha i _ q1
    obtain ⟨q2', e2⟩ := ha j _ q2
    rw [e1] at e
    rw [e2]
    exact h.dis i j ds es a n p1 p2 q1' q2' e
theorem wipe_same {σ' : L2.St} : ∀ {vs : List Nat}, σ'.length = σ.length →
    (∀ k, k ∉ vs → σ'[k]? = σ[k]?) → wipe σ' vs = wipe σ vs := by
  have key : ∀ (vs : List Nat) (τ : L2.St) (k : Nat), k ∈ vs → k < τ.length → (wipe τ vs)[k]? = some none := by
    intro vs
    induction vs with
    | nil => intro τ k hk; cases hk
    | cons v vs ih =>
      intro τ k hk hl
      show ((wipe τ vs).set v none)[k]? = some none
      by_cases e : v = k
      · subst e
        rw [List.getElem?_set_self (by rw [wipe_length]; exact hl)]
      · rw [List.getElem?_set_ne e]
        rcases List.mem_cons.mp hk with z | z
        · exact absurd z.symm e
        · exact ih τ k z hl
  intro vs hl ha
  apply List.ext_getElem?
  intro k
  by_cases hk : k ∈ vs
  · by_cases hb : k < σ.length
    · rw [key vs σ' k hk (by omega), key vs σ k hk hb]
    · rw [List.getElem?_eq_none (by rw [wipe_length]; omega), List.getElem?_eq_none (by rw [wipe_length]; omega)]
  · rw [wipe_out hk, wipe_out hk, ha k hk]
end
section
variable {K : PySem.W.Frag} {l : Option Addr} {ρ : Ro} {m : Nat}
variable {Nx : Nat → Ro → Prop} {Rt : Nat → D → Prop} {te : TE}
end
section
variable {K : PySem.W.Frag} {l : Option Addr} {ρ : Ro} {m : Nat}
variable {Φ : Nat → D → Prop} {te tl : TE} {tt : TT}
end
end Wt

namespace Wt
open PySem PySem.Spec PyProof.Rows L2
section
variable {P : Program} {w : World} {A : Around} {E : Value → Shared → Prop} {s : Shared}
/-- a key that the heap reads at an address -/
def KI (h : Heap) (k : NestedKey) (a : Addr) : Prop := NestedIs h k (.ref a) ∧ k.depth ≤ 8
/-- the rows of a table -/
def rowsN (w : World) (L : List (Addr × NestedKey)) : List (Int × Value) := L.map fun p => (NestedKey.hash w p.2, .ref p.1)
structure SetN (w : World) (h : Heap) (a : Addr) (L : List (Addr × NestedKey)) (es : Array (Int × Value)) (ep : Nat)
    (t : SetTable) : Prop where
  ob : ∃ o, h.get? a = some o ∧ o.ExactSet ∧ o.data = .set es ep t
  rows : es.toList = rowsN w L
  tab : TabOk t (L.map fun p => NestedKey.hash w p.2)
  nd : (L.map (·.2)).Nodup
  key : ∀ p ∈ L, KI h p.2 p.1
  room : L.length * 5 < t.mask * 3
  few : L.length < 64
  led : w.params.followText "set-order" = true ∨ t.led = true
theorem SetN.size {a : Addr} {L : List (Addr × NestedKey)} {es : Array (Int × Value)} {ep : Nat} {t : SetTable} {h : Heap}
    (S : SetN w h a L es ep t) : es.size = L.length := by
  rw [← Array.length_toList, S.rows, rowsN, List.length_map]
theorem SetN.entry {a : Addr} {L : List (Addr × NestedKey)} {es : Array (Int × Value)} {ep : Nat} {t : SetTable} {h : Heap}
    (S : SetN w h a L es ep t) {i : Nat} {p : Addr × NestedKey} (hp : L[i]? = some p) :
    es[i]? = some (NestedKey.hash w p.2, .ref p.1) := by
  rw [← Array.getElem?_toList, S.rows, rowsN, List.getElem?_map, hp]
  rfl
theorem filter_range {α : Type} (L : List α) : (List.range L.length).filterMap (fun i => L[i]?) = L := by
  have h1 : (List.range L.length).map (fun i => L[i]?) = L.map some := by
    apply List.ext_getElem
    · simp
    · intro i h1 h2
      have : i < L.length := by simpa using h2
      rw [List.getElem_map, List.getElem_map, List.getElem_range, List.getElem?_eq_getElem this]
  have h2 : (List.range L.length).filterMap (fun i => L[i]?) = ((List.range L.length).map (fun i => L[i]?)).filterMap id := by
    rw [List.filterMap_map]; rfl
  rw [h2, h1, List.filterMap_map]
  exact List.filterMap_some
end
end Wt

namespace Wt
open PySem PySem.Spec PyProof.Rows L2
section
variable {P : Program} {w : World} {A : Around} {E : Value → Shared → Prop} {s : Shared}
theorem SetN.keep {h h' : Heap} {a : Addr} {L : List (Addr × NestedKey)} {es : Array (Int × Value)}
    {ep : Nat} {t : SetTable} (S : SetN w h a L es ep t)
    (ha : ∀ o, h.get? a = some o → h'.get? a = some o) (hk : ∀ p ∈ L, KI h' p.2 p.1) : SetN w h' a L es ep t := by
  obtain ⟨o, ho, r⟩ := S.ob
  exact ⟨⟨o, ha o ho, r⟩, S.rows, S.tab, S.nd, hk, S.room, S.few, S.led⟩
/-- what is in it of the first i of ks -/
structure HasN (ks : List (Addr × NestedKey)) (i : Nat) (L : List (Addr × NestedKey)) : Prop where
  sub : ∀ p ∈ L, p ∈ ks.take i
  all : ∀ p ∈ ks.take i, p.2 ∈ L.map (·.2)
  len : L.length ≤ i
theorem HasN.put {ks L L' : List (Addr × NestedKey)} {i : Nat} {x : Addr × NestedKey} (g : HasN ks i L)
    (h : ks[i]? = some x) (c : x.2 ∈ L.map (·.2) ∧ L' = L ∨ L'.Perm (x :: L)) : HasN ks (i + 1) L' := by
  have e : ks.take (i + 1) = ks.take i ++ [x] := L2.take_next h
  rcases c with ⟨hm, rfl⟩ | pm
  · refine ⟨fun p hp => e ▸ List.mem_append_left _ (g.sub p hp), fun p hp => ?_, by have := g.len; omega⟩
    rw [e, List.mem_append, List.mem_singleton] at hp
    rcases hp with z | rfl
    · exact g.all p z
    · exact hm
  · refine ⟨fun p hp => ?_, fun p hp => ?_, by rw [pm.length_eq, List.length_cons]; have := g.len; omega⟩
    · rw [e, List.mem_append, List.mem_singleton]
      rcases List.mem_cons.mp (pm.mem_iff.mp hp) with z | z
      · exact .inr z
      · exact .inl (g.sub p z)
    · rw [(pm.map (·.2)).mem_iff, List.map_cons, List.mem_cons]
      rw [e, List.mem_append, List.mem_singleton] at hp
      rcases hp with z | rfl
      · exact .inr (g.all p z)
      · exact .inl rfl
end
mutual
def D.nk : D → NestedKey
  | .int i => .num i
  | .tup xs => .tup (D.nks xs)
  | _ => .none
def D.nks : List D → List NestedKey
  | [] => []
  | x :: xs => D.nk x :: D.nks xs
end
mutual
/-- numbers, and tuples of such -/
def D.keyed : D → Bool
  | .int _ => true
  | .tup xs => D.keyeds xs
  | _ => false
def D.keyeds : List D → Bool
  | [] => true
  | x :: xs => D.keyed x && D.keyeds xs
end
section
variable {X : Cx}
end
end Wt
namespace Wt
open PySem PySem.Spec PyProof.Rows L2
section
variable {X : Cx}
end
section
variable {K : PySem.W.Frag} {l : Option Addr} {ρ : Ro} {m : Nat}
variable {Φ : Nat → D → Prop} {ta : TE}
end
end Wt
namespace Wt
open PySem PySem.Spec PyProof.Rows L2
theorem _root_.L2.Room.u200 {k : Nat} {A : Around} (r : L2.Room k A) : A.units + 200 < cLine := by
  have := r.un
  omega
section
variable {X : Cx}
end
section
variable {K : PySem.W.Frag} {l : Option Addr} {ρ : Ro} {m : Nat}
variable {Φ : Nat → D → Prop}
end
end Wt

namespace Wt
open PySem PySem.Spec PyProof.Rows L2
section
variable {X : Cx}
end
section
variable {K : PySem.W.Frag} {l : Option Addr} {ρ : Ro} {m : Nat}
variable {Φ : Nat → D → Prop}
end
end Wt

namespace Wt
open PySem PySem.Spec PyProof.Rows L2
section
variable {K : PySem.W.Frag} {l : Option Addr} {ρ : Ro} {m : Nat}
variable {Φ : Nat → D → Prop} {tl te : TE} {tt : TT}
end
end Wt

namespace Wt
open PySem PySem.Spec PyProof.Rows L2
section
variable {K : PySem.W.Frag} {l : Option Addr} {ρ : Ro} {m : Nat}
variable {Φ : Nat → D → Prop} {tl te : TE} {tt : TT} {tA : TA}
variable {Z : Addr → Prop} {B H : Hp} {σ : L2.St}
/-- a turn, whatever the target is -/
theorem lcx_turnG {A : Addr} {I : Nat → Nat → List D → Prop} {i : Nat} {x : V} {H' : Hp} {g : TG} {vs : List Nat}
    (hz : ¬ Z A) (w : LcX K l Z ρ σ B H A I i H') (hl : σ.length = ρ.length) (hi : i < 100000)
    (hx : ∀ n acc B', Ok K l (fun a => Z a ∨ a = A) n B' H' σ ρ → Same B B' → I i n acc → ∃ σ2 ρ2,
      (∀ R, R σ2 H' → g x (wipe σ vs) H' R) ∧ wipe σ2 vs = wipe σ vs ∧
      Ok K l (fun a => Z a ∨ a = A) n B' H' σ2 ρ2 ∧
      (∀ (k : Nat) y, ρ[k]? = some (some y) → ρ2[k]? = some (some y) ∧ σ[k]? = σ2[k]?) ∧
      TvC K l tt ρ2 n fun n1 b => if b = true then EvC K l te ρ2 n1 fun n2 y =>
          I (i + 1) n2 (acc ++ [y]) else I (i + 1) n1 acc) :
    g x (wipe σ vs) H' fun σ2 H2 => wipe σ2 vs = wipe σ vs ∧
      tt σ2 H2 fun b H3 => if b = true then te σ2 H3 fun y H4 =>
        ∃ acc, H4 A = some (.lst acc) ∧ acc.length < sizeLine ∧
          LcX K l Z ρ σ B H A I (i + 1) (upd H4 A (.lst (acc ++ [y])))
      else LcX K l Z ρ σ B H A I (i + 1) H3 := by
  obtain ⟨n, acc, xs, B', ok, fr, hA, is, hI, hal⟩ := w
  obtain ⟨σ2, ρ2, hg, hw, ok2, hd, he⟩ := hx n acc B' ok fr.sub hI
  refine hg _ ⟨hw, ?_⟩
  refine he _ B' H' _ _ ok2 fun b n1 B1 H1 o1 f1 g1 => ?_
  have hA1 : H1 A = some (.lst xs) := (f1.kept A (.inr rfl)).trans hA
  cases b with
  | false =>
    rw [if_neg Bool.false_ne_true] at g1 ⊢
    exact ⟨n1, acc, xs, B1, o1.down hl hd, fr.trans (f1.weak fun z q => .inl q),
      hA1, is.mono f1.sub, g1, by omega⟩
  | true =>
    rw [if_pos rfl] at g1 ⊢
    refine g1 _ B1 H1 _ _ o1 fun v y n2 B2 H2 o2 f2 i2 g2 => ?_
    have hA2 : H2 A = some (.lst xs) := (f2.kept A (.inr rfl)).trans hA1
    refine ⟨xs, hA2, ?_, n2, acc ++ [y], xs ++ [v], B2,
      (o2.down hl hd).write (.inr rfl), ?_, upd_same,
      ((is.mono f1.sub).mono f2.sub).append (.cons i2 .nil), g2,
      by simp; omega⟩
    · rw [is.length]
      exact Nat.lt_of_le_of_lt hal (Nat.lt_of_lt_of_le hi (by decide))
    · refine ⟨(fr.sub.trans f1.sub).trans f2.sub, fun z hz' => ?_⟩
      rw [upd_ne (fun (e : z = A) => hz (e ▸ hz'))]
      exact ((f2.kept z (.inl hz')).trans (f1.kept z (.inl hz'))).trans
        (fr.kept z hz')
theorem lcx_junk {A T : Addr} {o : HO} {I : Nat → Nat → List D → Prop} {i : Nat} {H' : Hp}
    (w : LcX K l Z ρ σ B H A I i H') (hT : H' T = none) : LcX K l Z ρ σ B H A I i (upd H' T o) := by
  obtain ⟨n, acc, xs, B', ok, fr, hA, is, hI, hl⟩ := w
  obtain ⟨oJ, fJ⟩ := ok.junk (o := o) hT
  refine ⟨n, acc, xs, B', oJ, fr.trans (fJ.weak fun z q => .inl q), ?_, is, hI, hl⟩
  rw [upd_ne fun e => by rw [e, hT] at hA; cases hA]
  exact hA
theorem ok_wipe {vs : List Nat} {n : Nat} {B' H' : Hp} (h : Ok K l Z n B' H' σ ρ) (hv : ∀ j ∈ vs, ρ[j]? = some none) :
    Ok K l Z n B' H' (wipe σ vs) ρ := by
  refine h.down (by rw [wipe_length]; exact h.len) fun k x e => ⟨e, ?_⟩
  have : k ∉ vs := fun z => by rw [hv k z] at e; cases e
  exact wipe_out this
theorem wipe_set {vs : List Nat} {k : Nat} {v : Option V} (hk : k ∈ vs) (τ : L2.St) (h : wipe τ vs = wipe σ vs) :
    wipe (τ.set k v) vs = wipe σ vs := by
  rw [← h]
  refine wipe_same (by rw [List.length_set]) fun j hj => ?_
  exact List.getElem?_set_ne (show k ≠ j from fun e => hj (e ▸ hk))
theorem wipe_wipe {vs : List Nat} (σ : L2.St) : wipe (wipe σ vs) vs = wipe σ vs :=
  wipe_same (wipe_length _ _) fun k hk => wipe_out hk
/-- [e for i, a in enumerate(t) if t] -/
theorem e_lcExf {i j : Nat} (hi : ρ[i]? = some none) (hj : ρ[j]? = some none)
    (h : AvC K l tA ρ m fun m1 as => ∃ ds, as = [.tup ds] ∧
      ∃ (α : Type) (xs : List α) (g : α → D) (f : Nat → α → D) (p : Nat → α → Bool), ds = xs.map g ∧ xs.length ≤ 50000 ∧
      (∀ (c : Nat) a, xs[c]? = some a → TvC K l tt ((ρ.set i (some (.dat (.int c)))).set j (some (.dat (g a)))) m1 fun n1 b => n1 = m1 ∧ b = p c a) ∧
      (∀ (c : Nat) a, xs[c]? = some a → p c a = true → EvC K l te ((ρ.set i (some (.dat (.int c)))).set j (some (.dat (g a)))) m1 fun n2 y => n2 = m1 ∧ y = f c a) ∧
      Φ m1 (.lst ((xs.zipIdx.filter fun a => p a.2 a.1).map fun a => f a.2 a.1))) :
    EvC K l (tLc (iEnT K tA) (g2 K i j) tt te [i, j]) ρ m Φ := by
  intro Z B H σ Q ok k
  have hsl := ok.len
  refine h Z B H σ _ ok fun vs as m1 B1 H1 o1 f1 i1 g1 => ?_
  obtain ⟨ds, rfl, α, xs, g, f, p, rfl, hl, ht, hb, hq⟩ := g1
  obtain ⟨v, rfl, z1⟩ := isAll1 i1
  cases z1 with
  | @tup a us _ hu is =>
    refine ⟨a, us, rfl, sameT o1.sub hu, fun A hA => ?_⟩
    have hz : ¬ Z A := fun z => (o1.zs A z).1 hA
    have hv : ∀ s ∈ [i, j], ρ[s]? = some none := fun s hs => by
      simp only [List.mem_cons, List.not_mem_nil, or_false] at hs
      rcases hs with rfl | rfl <;> assumption
    refine lc_it (walk_enT (xs := us)) (LcX K l Z ρ σ B1 H1 A fun i n acc => n = m1 ∧ acc = ((xs.zipIdx.take i).filter fun a => p a.2 a.1).map fun a => f a.2 a.1)
      (lcx_start o1 hA ⟨rfl, rfl⟩) (fun i H' _ w => ?_) (fun c x H' H'' hc w q => ?_) fun H' w => ?_
    · obtain ⟨n, acc, zs, B', ok', fr', _⟩ := w
      exact sameT ok'.sub (sameT fr'.sub hu)
    · obtain ⟨T, x1, y1, rfl, hT, rfl, e1, e2⟩ := q
      cases e1
      rw [is.length, List.length_map] at hc
      refine lcx_turnG hz (lcx_junk w hT) hsl (by omega) fun n acc B' ok' sb hI => ?_
      obtain ⟨rfl, rfl⟩ := hI
      obtain ⟨d, e3, q⟩ := (is.mono sb).get e2
      rw [List.getElem?_map, Option.map_eq_some_iff] at e3
      obtain ⟨b, ex, rfl⟩ := e3
      have ez : xs.zipIdx[c]? = some (b, c) := by rw [List.getElem?_zipIdx, ex]; simp
      refine ⟨((wipe σ [i, j]).set i (some (.int (c : Nat)))).set j (some y1), _, fun R hR => ?_, ?_, ((ok_wipe ok' hv).set (.int _)).set q, fun kk y ey => ?_, ?_⟩
      · exact ⟨T, [.int (c : Nat), y1], rfl, SqT.of upd_same, rfl, .int (c : Nat), [y1], rfl, y1, [], rfl, rfl, hR⟩
      · exact wipe_set (by simp) _ (wipe_set (by simp) _ (wipe_wipe σ))
      · have n1 : i ≠ kk := fun z => by rw [← z, hi] at ey; cases ey
        have n2 : j ≠ kk := fun z => by rw [← z, hj] at ey; cases ey
        rw [List.getElem?_set_ne n2, List.getElem?_set_ne n1, List.getElem?_set_ne n2, List.getElem?_set_ne n1]
        exact ⟨ey, (wipe_out (by simp; exact ⟨Ne.symm n1, Ne.symm n2⟩)).symm⟩
      · refine t_imp (ht c _ ex) fun n1 bb e => ?_
        obtain ⟨rfl, rfl⟩ := e
        try dsimp only
        rw [List.take_add_one, ez, Option.toList_some, List.filter_append, List.map_append, List.filter_cons]
        cases e : p c b with
        | true =>
          rw [if_pos rfl]
          refine e_imp (hb c _ ex e) fun n2 y e2 => ?_
          obtain ⟨rfl, rfl⟩ := e2
          exact ⟨rfl, by simp⟩
        | false =>
          rw [if_neg Bool.false_ne_true]
          exact ⟨rfl, by simp⟩
    · refine lcx_end hz w (fun n acc hI => ?_) fun v d m' B2 H2 o2 f2 i2 g2 =>
        k v d m' B2 H2 o2 (f1.trans f2) i2 g2
      obtain ⟨rfl, rfl⟩ := hI
      rw [is.length, List.length_map, List.take_of_length_le (by rw [List.length_zipIdx]; exact Nat.le_refl _)]
      exact hq
end
end Wt

namespace Wt
open PySem PySem.Spec PyProof.Rows L2
section
variable {K : PySem.W.Frag} {l : Option Addr} {ρ : Ro} {m : Nat}
variable {Φ : Nat → D → Prop} {te : TE} {tA tA2 : TA}
end
end Wt

namespace Wt
open PySem PySem.Spec PyProof.Rows L2
section
variable {X : Cx} {o e f : Expr} {apos cpos : Pos} {td ty tx : TE}
end
section
variable {K : PySem.W.Frag} {l : Option Addr} {ρ : Ro} {m : Nat}
variable {Φ : Nat → D → Prop} {Θ : Nat → Bool → Prop} {tl te tk tv : TE} {tt : TT} {tA : TA}
variable {Z : Addr → Prop} {B H : Hp} {σ : L2.St} {Nx : Nat → Ro → Prop} {Rt : Nat → D → Prop} {ts : TS}
abbrev ObR := Hp → Addr → HO → Prop
/-- it stays told while more is data -/
def ObR.Mono (R : ObR) : Prop := ∀ B1 B2 a o, Same B1 B2 → R B1 a o → R B2 a o
def DkR (K : PySem.W.Frag) (B : Hp) (p : Key × V) (q : Int × D) : Prop := p.1 = .inl q.1 ∧ Is K B p.2 q.2
def DctR (K : PySem.W.Frag) (kvs : List (Int × D)) : ObR := fun B _ o =>
  ∃ es : List (Key × V), o = .dK es ∧ Paired (DkR K B) es kvs
theorem DctR.mono {kvs : List (Int × D)} : (DctR K kvs).Mono := fun B1 B2 a o s ⟨es, e, p⟩ =>
  ⟨es, e, L2.Paired.mapP p fun x y z => ⟨z.1, z.2.mono s⟩⟩
/-- what the dict holds there -/
def dval (kvs : List (Int × D)) (n : Int) : Option D := (kvs.find? fun q => decide (q.1 = n)).map (·.2)
theorem dval_nil (n : Int) : dval [] n = none := rfl
theorem dval_cons (q : Int × D) (r : List (Int × D)) (n : Int) : dval (q :: r) n = if q.1 = n then some q.2 else dval r n := by
  unfold dval
  rw [List.find?_cons]
  by_cases h : q.1 = n
  · rw [decide_eq_true h, if_pos h]; rfl
  · rw [decide_eq_false h, if_neg h]
end
end Wt

namespace Wt
open PySem PySem.Spec PyProof.Rows L2
section
variable {P : Program} {w : World} {A : Around} {E : Value → Shared → Prop} {s : Shared}
end
/-- the unlike ones of ds, rising -/
def SortU (ds rs : List D) : Prop := rs.Nodup ∧ (∀ d, d ∈ rs ↔ d ∈ ds) ∧ rs.Pairwise fun a b => leD a b = true
section
variable {X : Cx}
end
section
variable {K : PySem.W.Frag} {l : Option Addr} {ρ : Ro} {m : Nat}
variable {Φ : Nat → D → Prop} {ta : TE}
end
end Wt

namespace Wt
open PySem PySem.Spec PyProof.Rows L2
mutual
theorem num_plainP : ∀ {d : D}, d.numB = true → d.py.plain = true
  | .non, h => rfl
  | .int _, _ => rfl
  | .lst xs, h => by
    rw [D.numB] at h
    rw [D.py, PyData.plain]; exact nums_plainP h
  | .tup xs, h => by
    rw [D.numB] at h
    rw [D.py, PyData.plain]; exact nums_plainP h
  | .bl _, h | .str _, h | .dic _, h | .ins _ _ _, h | .scr _, h | .dct _ _, h => by simp [D.numB] at h
theorem nums_plainP : ∀ {xs : List D}, D.nums xs = true → PyData.plainAll (D.pys xs) = true
  | [], _ => rfl
  | x :: xs, h => by
    rw [D.nums, Bool.and_eq_true] at h
    rw [D.pys, PyData.plainAll, num_plainP h.1, nums_plainP h.2]; rfl
end
def rCntD (K : PySem.W.Frag) : V → List V → Hp → VK → Prop := fun x xs H Q =>
  ∃ (p : Addr) (ys : List V) (B : Hp) (ds : List D) (y : V) (d : D) (k w : Nat), x = .ref p ∧ xs = [y] ∧
    SqL K H p ys ∧ Same B H ∧ IsAll K B ys ds ∧ Is K B y d ∧ (∀ e ∈ ds, Num k w e) ∧ Num k w d ∧ k ≤ 100 ∧
    Q (.int (ds.countP fun e => PyData.eqv e.py d.py : Nat)) H
section
variable {X : Cx}
theorem mt_cntD (hu : X.A.units + 200 < cLine) : MtR X "list.count" (rCntD X.K) := by
  intro pins s σ H x xs v us Q I rx rs h
  obtain ⟨p, ys, B, ds, y, d, k, w0, rfl, rfl, hs, sb, is, iy, hn, hd, hk, q⟩ := h
  cases rx
  obtain ⟨u, rfl, ru⟩ := rs.one
  obtain ⟨its, rv, pl, _⟩ := I.list hs
  have hpl : D.plains ds = true := by
    rw [plains_all, List.all_eq_true]
    exact fun e he => (hn e he).plain
  have hfl : D.nums ds = true := by
    rw [flats_all, List.all_eq_true]
    exact fun e he => (hn e he).flat
  obtain ⟨as, ra, _⟩ := IsAll.reads I sb is hpl rv
  obtain ⟨bs, rb, _⟩ := Is.reads I sb iy hd.plain ru
  refine SeqAt.count_list_data (xs := D.pys ds) (d := d.py) pl.isList (by simpa using ra) rb (nums_plainP hfl) (num_plainP hd.flat) ?_ ?_
  · have := Nat.min_le_right (PyData.depthAll (D.pys ds)) d.py.depth
    have : d.py.depth ≤ k := hd.deep
    show X.A.units + 1 + _ < _
    omega
  · refine ⟨.int _, H, I.tok _, ⟨s.toks, ?_⟩, q⟩
    rw [pys_map, List.countP_map]
    rfl
end
section
variable {K : PySem.W.Frag} {l : Option Addr} {ρ : Ro} {m : Nat}
variable {Φ : Nat → D → Prop} {tl te : TE}
theorem e_cntD (h : EvC K l tl ρ m fun m1 x => ∃ ds, x = .lst ds ∧ EvC K l te ρ m1 fun m2 d =>
      ∃ k w, (∀ e ∈ ds, Num k w e) ∧ Num k w d ∧ k ≤ 100 ∧ Φ m2 (.int (ds.countP fun e => PyData.eqv e.py d.py : Nat))) :
    EvC K l (tBM K "list" (rCntD K) tl (tCons te tNil)) ρ m Φ := by
  intro Z B H σ Q ok k
  refine h Z B H σ _ ok fun v x m1 B1 H1 o1 f1 i1 g1 => ?_
  obtain ⟨ds, rfl, g1⟩ := g1
  cases i1 with
  | @lst a us _ hu r =>
    refine ⟨.inl ⟨rfl, _, SqL.of (o1.sub _ _ hu)⟩, ?_⟩
    refine g1 Z B1 H1 σ _ o1 fun v2 d m2 B2 H2 o2 f2 i2 g2 => ?_
    obtain ⟨kk, w, h1, h2, h3, q⟩ := g2
    exact ⟨a, us, B2, ds, v2, d, kk, w, rfl, rfl, SqL.of (o2.sub _ _ (f2.sub _ _ hu)), o2.sub, r.mono f2.sub, i2, h1, h2, h3,
      k _ _ m2 B2 H2 o2 (f1.trans f2) (.int _) q⟩
end
end Wt

namespace Wt
open PySem PySem.Spec PyProof.Rows L2
section
variable {K : PySem.W.Frag} {l : Option Addr} {ρ : Ro} {m : Nat}
variable {Φ : Nat → D → Prop} {Θ : Nat → Bool → Prop} {ta tb te : TE}
end
end Wt

namespace Wt
open PySem PySem.Spec PyProof.Rows L2
/-- an entry: the key, where it stands, where its value stands -/
abbrev Ent := NestedKey × Addr × Addr
abbrev entN (w : World) (e : Ent) : DictEntry := ⟨NestedKey.hash w e.1, .ref e.2.1, .ref e.2.2⟩
def RawN (w : World) (h : Heap) (a : Addr) (L : List Ent) : Prop :=
  (a == sysModules) = false ∧ ∃ es ep, h.DictRaw a es ep ∧ es.toList = L.map (entN w)
def DnO (w : World) (a : Addr) (L : List Ent) : HO := .ext fun h => RawN w h a L
section
variable {P : Program} {w : World} {A : Around} {E : Value → Shared → Prop} {s : Shared}
end
section
variable {X : Cx}
structure DnE (K : PySem.W.Frag) (B : Hp) (e : Ent) (q : List D × List D) : Prop where
  key : e.1 = (D.tup q.1).nk
  kd : D.keyeds q.1 = true
  dp : (D.tup q.1).nk.depth ≤ 8
  ki : Is K B (.ref e.2.1) (.tup q.1)
  vi : Is K B (.ref e.2.2) (.tup q.2)
theorem DnE.mono {K : PySem.W.Frag} {B B2 : Hp} {e : Ent} {q : List D × List D} (h : DnE K B e q) (s : Same B B2) : DnE K B2 e q :=
  ⟨h.key, h.kd, h.dp, h.ki.mono s, h.vi.mono s⟩
def DnR (w : World) (K : PySem.W.Frag) (kvs : List (List D × List D)) : ObR := fun B a o =>
  ∃ L, o = DnO w a L ∧ Paired (DnE K B) L kvs
theorem DnR.mono {w : World} {K : PySem.W.Frag} {kvs : List (List D × List D)} : (DnR w K kvs).Mono := fun B1 B2 a o s ⟨L, e, p⟩ =>
  ⟨L, e, L2.Paired.mapP p fun x y z => z.mono s⟩
theorem paired_memL {α β : Type} {F : α → β → Prop} : ∀ {l1 : List α} {l2 : List β}, Paired F l1 l2 → ∀ a ∈ l1, ∃ b ∈ l2, F a b
  | _, _, .nil, a, h => nomatch h
  | _, _, .cons r t, a, h => by
    rcases List.mem_cons.mp h with rfl | h
    · exact ⟨_, List.mem_cons_self, r⟩
    · obtain ⟨b, hb, q⟩ := paired_memL t a h
      exact ⟨b, List.mem_cons_of_mem _ hb, q⟩
end
end Wt

namespace Wt
open PySem PySem.Spec PyProof.Rows L2
section
variable {X : Cx}
end
end Wt

namespace Wt
open PySem PySem.Spec PyProof.Rows L2
section
variable {K : PySem.W.Frag} {l : Option Addr} {ρ : Ro} {m : Nat} {w : World}
variable {Φ : Nat → D → Prop} {te tk tv : TE} {Nx : Nat → Ro → Prop} {Rt : Nat → D → Prop}
end
end Wt

namespace Wt
open PySem PySem.Spec PyProof.Rows L2
section
variable {K : PySem.W.Frag} {l : Option Addr} {ρ : Ro} {m : Nat}
variable {Nx : Nat → Ro → Prop} {Rt : Nat → D → Prop} {t1 t2 tl te : TE}
end
end Wt

namespace Wt
open PySem PySem.Spec PyProof.Rows L2
section
variable {K : PySem.W.Frag} {l : Option Addr} {ρ : Ro} {m : Nat}
variable {Φ : Nat → D → Prop} {te : TE} {tA : TA}
end
end Wt

namespace Wt
open PySem PySem.Spec PyProof.Rows L2
section
variable {K : PySem.W.Frag} {l : Option Addr} {ρ : Ro} {m : Nat}
variable {Φ : Nat → D → Prop} {te : TE} {tA : TA}
end
end Wt

namespace Wt
open PySem PySem.Spec PyProof.Rows L2
section
variable {K : PySem.W.Frag} {l : Option Addr} {ρ : Ro} {m : Nat} {Φ : Nat → D → Prop}
variable {Nx : Nat → Ro → Prop} {Rt : Nat → D → Prop}
end
end Wt

namespace Wt
open PySem PySem.Spec PyProof.Rows L2
section
variable {K : PySem.W.Frag} {l : Option Addr} {ρ : Ro} {m : Nat} {Φ : Nat → D → Prop} {te : TE}
end
section
variable {K : PySem.W.Frag} {l : Option Addr} {ρ : Ro} {m : Nat} {Φ : Nat → D → Prop}
end
end Wt

namespace Wt
open PySem PySem.Spec PyProof.Rows L2
/-- an entry's key -/
structure KeyE (K : PySem.W.Frag) (B : Hp) (e : Ent) (t : List D) : Prop where
  key : e.1 = (D.tup t).nk
  kd : D.keyeds t = true
  dp : (D.tup t).nk.depth ≤ 8
  ki : Is K B (.ref e.2.1) (.tup t)
theorem KeyE.mono {K : PySem.W.Frag} {B B2 : Hp} {e : Ent} {t : List D} (h : KeyE K B e t) (s : Same B B2) : KeyE K B2 e t :=
  ⟨h.key, h.kd, h.dp, h.ki.mono s⟩
section
variable {X : Cx} {o e f : Expr} {apos cpos pos : Pos} {td ty tx : TE}
end
end Wt

namespace Wt
open PySem PySem.Spec PyProof.Rows L2
abbrev BxV := List D × Int × Int
/-- a dict whose entries are told -/
def DnLR (w : World) (L : List Ent) : ObR := fun _ a o => o = DnO w a L
theorem DnLR.mono {w : World} {L : List Ent} : (DnLR w L).Mono := fun _ _ _ _ _ h => h
structure BxE (K : PySem.W.Frag) (B H : Hp) (e : Ent) (q : BxV) : Prop where
  key : KeyE K B e q.1
  val : H e.2.2 = some (.lst [.int q.2.1, .int q.2.2])
abbrev bxs (L : List Ent) : List Addr := L.map (·.2.2)
theorem BxE.keys {K : PySem.W.Frag} {B H : Hp} : ∀ {L : List Ent} {kvs : List BxV}, Paired (BxE K B H) L kvs → Paired (KeyE K B) L (kvs.map (·.1))
  | _, _, .nil => .nil
  | _, _, .cons r p => .cons r.key (BxE.keys p)
theorem BxE.at {K : PySem.W.Frag} {B H : Hp} : ∀ {L : List Ent} {kvs : List BxV}, Paired (BxE K B H) L kvs → ∀ e ∈ L, ∃ q ∈ kvs, BxE K B H e q :=
  fun p => paired_memL p
theorem BxE.more {K : PySem.W.Frag} {B H B2 H2 : Hp} (s : Same B B2) : ∀ {L : List Ent} {kvs : List BxV}, (∀ z ∈ bxs L, H2 z = H z) → Paired (BxE K B H) L kvs → Paired (BxE K B2 H2) L kvs
  | _, _, _, .nil => .nil
  | _, _, k, .cons r p => .cons ⟨r.key.mono s, by rw [k _ List.mem_cons_self]; exact r.val⟩ (BxE.more s (fun z hz => k z (List.mem_cons_of_mem _ hz)) p)
section
variable {K : PySem.W.Frag} {l : Option Addr} {w : World} {i : Nat} {ts tu tb : TS} {ρ : Ro} {m : Nat} {kvs : List BxV} {Nx Nx' : Nat → Ro → List BxV → Prop}
variable {tl te tk : TE}
end
end Wt

namespace Wt
open PySem PySem.Spec PyProof.Rows L2
section
variable {K : PySem.W.Frag} {l : Option Addr} {w : World} {i : Nat} {ts tu tb : TS} {ρ : Ro} {m : Nat} {kvs : List BxV} {Nx Nx' : Nat → Ro → List BxV → Prop}
variable {tl te tk : TE}
end
structure VlE (K : PySem.W.Frag) (B : Hp) (e : Ent) (q : List D × D) : Prop where
  key : KeyE K B e q.1
  vi : Is K B (.ref e.2.2) q.2
theorem VlE.mono {K : PySem.W.Frag} {B B2 : Hp} {e : Ent} {q : List D × D} (h : VlE K B e q) (s : Same B B2) : VlE K B2 e q := ⟨h.key.mono s, h.vi.mono s⟩
def DvR (w : World) (K : PySem.W.Frag) (kvs : List (List D × D)) : ObR := fun B a o => ∃ L, o = DnO w a L ∧ Paired (VlE K B) L kvs
theorem DvR.mono {w : World} {K : PySem.W.Frag} {kvs : List (List D × D)} : (DvR w K kvs).Mono := fun B1 B2 a o s ⟨L, e, p⟩ =>
  ⟨L, e, L2.Paired.mapP p fun x y z => z.mono s⟩
section
variable {K : PySem.W.Frag} {l : Option Addr} {w : World} {i : Nat} {ts tu tb : TS} {ρ : Ro} {m : Nat} {kvs : List BxV}
variable {tl te tk : TE} {Z : Addr → Prop} {B H : Hp} {σ : L2.St} {Nx : Nat → Ro → Prop} {Rt : Nat → D → Prop} {Φ : Nat → D → Prop}
variable {tA : TA}
end
end Wt

namespace Wt
open PySem PySem.Spec PyProof.Rows L2
section
variable {X : Cx}
end
section
variable {K : PySem.W.Frag} {l : Option Addr} {ρ : Ro} {m : Nat} {Φ : Nat → D → Prop}
end
theorem op_inDE {X : Cx} (hu : X.A.units + 200 < cLine) : OpR X (compareOp .In) (rInD X.K) := op_inD (by omega)
section
variable {K : PySem.W.Frag} {l : Option Addr} {ρ : Ro} {m : Nat} {Φ : Nat → D → Prop}
theorem v_inDL {a : D} {ds : List D} (ha : Eqs a) (hb : Eqs (.lst ds))
    (q : Φ m (.bl ((D.pys ds).any fun z => PyData.eqv z a.py))) :
    VvC K l ρ (fun vs H Q => ∃ x y, vs = [x, y] ∧ rInD K x y H Q) [a, .lst ds] m Φ := by
  intro Z B H σ vs Q ok is k
  obtain ⟨v, w, rfl, h, h2⟩ := isAll2 is
  exact ⟨_, _, rfl, _, _, h.dp ok.sub ha.plain, h2.dp ok.sub hb.plain,
    ha.shaped, hb.shaped, k _ _ m B H ok Fr.refl (.bl _) q⟩
end
abbrev entT (w : World) (e : Ent) : DictEntry := ⟨NestedKey.hash w e.1, .ref e.2.1, .bool true⟩
def RawT (w : World) (h : Heap) (a : Addr) (L : List Ent) : Prop :=
  (a == sysModules) = false ∧ ∃ es ep, h.DictRaw a es ep ∧ es.toList = L.map (entT w)
def DtO (w : World) (a : Addr) (L : List Ent) : HO := .ext fun h => RawT w h a L
section
variable {P : Program} {w : World}
end
section
variable {X : Cx} {o e f : Expr} {apos cpos pos : Pos} {td ty tx : TE}
end
def DtR (w : World) (K : PySem.W.Frag) (ks : List (List D)) : ObR := fun B a o => ∃ L, o = DtO w a L ∧ Paired (KeyE K B) L ks
theorem DtR.mono {w : World} {K : PySem.W.Frag} {ks : List (List D)} : (DtR w K ks).Mono := fun B1 B2 a o s ⟨L, e, p⟩ =>
  ⟨L, e, L2.Paired.mapP p fun x y z => z.mono s⟩
section
variable {K : PySem.W.Frag} {l : Option Addr} {ρ : Ro} {m : Nat} {w : World}
variable {Φ : Nat → D → Prop} {te tk tv : TE} {Nx : Nat → Ro → Prop} {Rt : Nat → D → Prop}
end
end Wt

namespace Wt
open PySem PySem.Spec PyProof.Rows L2
section
variable {K : PySem.W.Frag} {l : Option Addr} {ρ : Ro} {m : Nat}
variable {Φ : Nat → D → Prop} {tl te : TE} {tt : TT} {tA : TA}
variable {Z : Addr → Prop} {B H : Hp} {σ : L2.St}
end
end Wt

namespace Wt
open PySem PySem.Spec PyProof.Rows L2
section
open PySem.SeqAt AutoSeq1 MeetsSeq
variable {A : Around} {s : Shared}
end
section
variable {K : PySem.W.Frag} {l : Option Addr} {ρ : Ro} {m : Nat} {Φ : Nat → D → Prop} {te : TE}
end
end Wt

namespace Wt
open PySem PySem.Spec PyProof.Rows L2 HT
section
variable {prog : Program} {w : World} {A : Around}
variable {E : Value → Shared → Prop} {s : Shared}
end
section
variable {X : Cx}
end
section
variable {K : PySem.W.Frag} {l : Option Addr} {ρ : Ro} {m : Nat}
variable {Φ : Nat → D → Prop} {te : TE} {B : Hp}
end
end Wt

namespace Wt
open PySem PySem.Spec PyProof.Rows L2
def DsR (ts : List Str) : ObR := fun _ _ o => ∃ kvs : List (Key × V), o = .dK kvs ∧ ∀ s : Str, (valV kvs (.inr s)).isSome = true ↔ s ∈ ts
theorem DsR.mono {ts : List Str} : ObR.Mono (DsR ts) := fun _ _ _ _ _ h => h
section
variable {K : PySem.W.Frag} {l : Option Addr} {ρ : Ro} {m : Nat}
variable {Nx : Nat → Ro → Prop} {Rt : Nat → D → Prop} {Φ : Nat → D → Prop} {te tk : TE}
end
end Wt

namespace Wt
open PySem PySem.Spec PyProof.Rows L2
section
variable {K : PySem.W.Frag} {l : Option Addr} {ρ : Ro} {m : Nat}
variable {Φ : Nat → D → Prop} {ts : TS} {tk tx ta tb : TE}
variable {Z : Addr → Prop} {B H : Hp} {σ : L2.St}
open Classical in
/-- the heap without what stands at p -/
noncomputable def less1 (H : Hp) (p : Addr) : Hp := fun a => if a = p then none else H a
theorem less1_ne {p a : Addr} (h : a ≠ p) : less1 H p a = H a := if_neg h
theorem Ok.drop {p : Addr} (h : Ok K l (fun a => Z a ∨ a = p) m B H σ ρ) (hz : ¬ Z p) : Ok K l Z m B (less1 H p) σ ρ := by
  obtain ⟨p1, p2, p3⟩ := h.zs p (.inr rfl)
  refine ⟨⟨fun a o e => ?_, fun a e => ⟨?_, (h.hand a e).2⟩, fun z q => ?_⟩, h.len, fun i s e => ?_, h.dis⟩
  · rw [less1_ne (fun n => by rw [n, p2] at e; cases e)]
    exact h.sub a o e
  · obtain ⟨g, s, c, q, r⟩ := (h.hand a e).1
    exact ⟨g, s, c, (less1_ne (fun (n : a = p) => p3 (n ▸ e))).trans q, r⟩
  · obtain ⟨q1, q2, q3⟩ := h.zs z (.inl q)
    exact ⟨by rw [less1_ne (fun (n : z = p) => hz (n ▸ q))]; exact q1, q2, q3⟩
  · obtain ⟨v, e1, q⟩ := h.sl i s e
    refine ⟨v, e1, ?_⟩
    cases s with
    | dat d => exact q
    | hand => exact q
    | own ds =>
      obtain ⟨a, xs, rfl, q1, q2, q3, q4, q5⟩ := q
      exact ⟨a, xs, rfl, (less1_ne (fun n => q3 (.inr n))).trans q1, q2, fun z => q3 (.inl z), q4, q5⟩
    | obj R =>
      obtain ⟨a, o, rfl, q1, q2, q3, q4, q5, q6⟩ := q
      exact ⟨a, o, rfl, (less1_ne (fun n => q3 (.inr n))).trans q1, q2, fun z => q3 (.inl z), q4, q5, q6⟩
variable {tk2 tv tv2 : TE}
end
end Wt

namespace Wt
open PySem PySem.Spec PyProof.Rows L2
/-- yields these data one by one, and changes nothing -/
structure Draw (K : PySem.W.Frag) (B : Hp) (J : It) (ds : List D) : Prop where
  stop : ∀ {B' H : Hp} {i : Nat}, Same B B' → Same B' H → ds.length ≤ i → J.stop i H
  go : ∀ {B' H : Hp} {i : Nat}, Same B B' → Same B' H → i < ds.length → J.go i H
  yld : ∀ {B' H H' : Hp} {i : Nat} {x : V}, Same B B' → Same B' H → i < ds.length → J.yld i H x H' →
    H' = H ∧ ∃ d, ds[i]? = some d ∧ Is K B' x d
def IvC (K : PySem.W.Frag) (l : Option Addr) (ti : TI) (ρ : Ro) (m : Nat) (Ψ : Nat → List D → Prop) : Prop :=
  ∀ Z B H σ (R : It → Hp → Prop), Ok K l Z m B H σ ρ →
    (∀ J ds m' B2 H2, Ok K l Z m' B2 H2 σ ρ → Fr Z B H B2 H2 → Draw K B2 J ds → Ψ m' ds → R J H2) → ti σ H R
section
variable {K : PySem.W.Frag} {l : Option Addr} {ρ : Ro} {m : Nat}
variable {Ψ : Nat → List D → Prop} {Φ : Nat → D → Prop} {te tl : TE} {tA : TA} {ti ti2 : TI} {tt : TT}
theorem i_tup (h : EvC K l tl ρ m fun m1 x => ∃ ds, x = .tup ds ∧ Ψ m1 ds) : IvC K l (iTup K tl) ρ m Ψ := by
  intro Z B H σ R ok k
  refine h Z B H σ _ ok fun v x m1 B1 H1 o1 f1 i1 g1 => ?_
  obtain ⟨ds, rfl, q⟩ := g1
  cases i1 with
  | @tup a us _ hu r1 =>
    have sq : ∀ {B' H : Hp}, Same B1 B' → Same B' H → SqT K H a us := fun s1 s2 => sameT s2 (sameT s1 hu)
    refine ⟨a, rfl, ⟨us, sq (Same.refl _) o1.sub⟩, k _ ds m1 B1 H1 o1 f1 ⟨fun s1 s2 hi => ⟨us, sq s1 s2, by rw [r1.length]; exact hi⟩,
      fun s1 s2 hi => ⟨us, us[_]'(by rw [r1.length]; exact hi), sq s1 s2, List.getElem?_eq_getElem _⟩, fun s1 s2 hi y => ?_⟩ q⟩
    obtain ⟨rfl, y⟩ := y
    obtain ⟨d, e2, pd⟩ := (r1.mono s1).get (y us (sq s1 s2))
    exact ⟨rfl, d, e2, pd⟩
theorem i_imp {Ψ' : Nat → List D → Prop} (h : IvC K l ti ρ m Ψ) (q : ∀ n d, Ψ n d → Ψ' n d) : IvC K l ti ρ m Ψ' :=
  fun Z B H σ R ok k => h Z B H σ R ok fun J ds n B2 H2 a b c e => k J ds n B2 H2 a b c (q n ds e)
/-- [e for x in .. for y in .. if t] -/
theorem e_lc2x {i j : Nat} (hi : ρ[i]? = some none) (hj : ρ[j]? = some none) (hij : i ≠ j)
    (h : IvC K l ti ρ m fun m1 ds => ∃ I : Nat → Nat → List D → Prop, I 0 m1 [] ∧
      (∀ c n acc d, ds[c]? = some d → I c n acc →
        IvC K l ti2 (ρ.set i (some (.dat d))) n fun n1 es =>
          ∃ J : Nat → Nat → List D → Prop, J 0 n1 acc ∧
          (∀ (t n : Nat) acc e, es[t]? = some e → J t n acc →
            acc.length < 100000 ∧ TvC K l tt ((ρ.set i (some (.dat d))).set j (some (.dat e))) n fun n2 b =>
              if b = true then EvC K l te ((ρ.set i (some (.dat d))).set j (some (.dat e))) n2 fun n3 y => J (t + 1) n3 (acc ++ [y])
              else J (t + 1) n2 acc) ∧
          ∀ n acc, J es.length n acc → I (c + 1) n acc) ∧
      ∀ n acc, I ds.length n acc → Φ n (.lst acc)) :
    EvC K l (tLc2 ti (gName i) tYes ti2 (gName j) tt te [i, j] [j]) ρ m Φ := by
  intro Z B H σ Q ok k
  refine h Z B H σ _ ok fun Jo ds m1 B1 H1 o1 f1 dr g1 => ?_
  obtain ⟨I, h0, hs, hd⟩ := g1
  intro A hA
  have hz : ¬ Z A := fun z => (o1.zs A z).1 hA
  refine ⟨fun c m H' => m = ds.length - c ∧ c ≤ ds.length ∧
    LcV K l Z ρ σ B1 H1 A (I c) H', ⟨ds.length, rfl, Nat.zero_le _, m1, [], [],
      B1, o1.aside hA, ⟨Same.refl B1, fun z q => upd_ne fun e =>
        hz (e ▸ q)⟩, upd_same, .nil, h0⟩, ?_⟩
  rintro c mm H' ⟨rfl, hc, w⟩
  obtain ⟨n, acc, xs, B', ok', fr', hA', is', hI⟩ := w
  by_cases hlt : c < ds.length
  · refine .inr ⟨dr.go fr'.sub ok'.sub hlt,
      fun H2 => LcV K l Z ρ σ B1 H1 A (I (c + 1)) H2,
      fun H2 q => ⟨ds.length - (c + 1), by omega, rfl, hlt, q⟩,
      fun x H2 y => ?_⟩
    obtain ⟨rfl, d, e2, pd⟩ := dr.yld fr'.sub ok'.sub hlt y
    have e1 : (wipe σ [i, j]).set i (some x) = (σ.set j none).set i (some x) := by
      show ((σ.set j none).set i none).set i (some x) = _
      rw [List.set_set]
    have ew : wipe ((σ.set j none).set i (some x)) [i, j] = wipe σ [i, j] := by
      show (((σ.set j none).set i (some x)).set j none).set i none = (σ.set j none).set i none
      rw [List.set_comm _ _ hij, List.set_set, List.set_set]
    unfold gName tYes
    dsimp only
    rw [e1, if_pos rfl]
    refine ⟨ew, ?_⟩
    have okI : Ok K l (fun a => Z a ∨ a = A) n B' H2
        ((σ.set j none).set i (some x)) (ρ.set i (some (.dat d))) := (ok'.any hj).set pd
    refine hs c n acc d e2 hI _ B' H2 _ _ okI
      fun Ji es n1 B3 H3 o3 f3 dr2 g3 => ?_
    obtain ⟨J, j0, js, jd⟩ := g3
    have fr3 : Fr Z B1 H1 B3 H3 := fr'.trans (f3.weak fun z q => .inl q)
    have hj2 : (ρ.set i (some (.dat d)))[j]? = some none := by
      rw [List.getElem?_set_ne hij]; exact hj
    have out : ∀ {nn B4 H4}, Ok K l (fun a => Z a ∨ a = A) nn B4 H4
        ((σ.set j none).set i (some x)) (ρ.set i (some (.dat d))) →
        Ok K l (fun a => Z a ∨ a = A) nn B4 H4 σ ρ := fun o => (o.unset hi).back hj
    refine ⟨fun t kk H4 => kk = es.length - t ∧ t ≤ es.length ∧ ∃ n4 acc4 xs4 B4, Same B3 B4 ∧ Ok K l (fun a => Z a ∨ a = A) n4 B4 H4 σ ρ ∧
      Fr Z B1 H1 B4 H4 ∧ H4 A = some (.lst xs4) ∧ IsAll K B4 xs4 acc4 ∧ J t n4 acc4, ⟨es.length, rfl, Nat.zero_le _, n1, acc,
      xs, B3, Same.refl _, out o3, fr3, (f3.kept A (.inr rfl)).trans hA', is'.mono f3.sub, j0⟩, ?_⟩
    rintro t kk H4 ⟨rfl, ht, n4, acc4, xs4, B4, s34, ok4, fr4, hA4, is4, hJ⟩
    by_cases hlt2 : t < es.length
    · refine .inr ⟨dr2.go s34 ok4.sub hlt2, fun H5 => ∃ n4 acc4 xs4 B4, Same B3 B4 ∧ Ok K l (fun a => Z a ∨ a = A) n4 B4 H5 σ ρ ∧
        Fr Z B1 H1 B4 H5 ∧ H5 A = some (.lst xs4) ∧ IsAll K B4 xs4 acc4 ∧ J (t + 1) n4 acc4,
        fun H5 q => ⟨es.length - (t + 1), by omega, rfl, hlt2, q⟩, fun x5 H5 y5 => ?_⟩
      obtain ⟨rfl, e, e5, pe⟩ := dr2.yld s34 ok4.sub hlt2 y5
      have e3 : (wipe ((σ.set j none).set i (some x)) [j]).set j (some x5) =
          ((σ.set j none).set i (some x)).set j (some x5) := by
        show ((((σ.set j none).set i (some x)).set j none).set j _) = _
        rw [List.set_set]
      rw [e3]
      refine ⟨?_, ?_⟩
      · show (((σ.set j none).set i (some x)).set j _).set j none =
          ((σ.set j none).set i (some x)).set j none
        rw [List.set_set]
      · obtain ⟨hlen4, htt⟩ := js t n4 acc4 e e5 hJ
        have pd4 : Is K B4 x d := (pd.mono f3.sub).mono s34
        refine htt _ B4 H5 _ _ (((ok4.any hj).set pd4).set pe)
          fun b n6 B6 H6 o6 f6 g6 => ?_
        have hA6 : H6 A = some (.lst xs4) := (f6.kept A (.inr rfl)).trans hA4
        cases b with
        | false =>
          rw [if_neg Bool.false_ne_true] at g6 ⊢
          exact ⟨n6, acc4, xs4, B6, s34.trans f6.sub, out (o6.unset hj2), fr4.trans (f6.weak fun z q => .inl q), hA6, is4.mono f6.sub, g6⟩
        | true =>
          rw [if_pos rfl] at g6 ⊢
          refine g6 _ B6 H6 _ _ o6 fun v y n7 B7 H7 o7 f7 i7 g7 => ?_
          have hA7 : H7 A = some (.lst xs4) := (f7.kept A (.inr rfl)).trans hA6
          refine ⟨xs4, hA7, ?_, n7, acc4 ++ [y], xs4 ++ [v], B7, (s34.trans f6.sub).trans f7.sub,
            (out (o7.unset hj2)).write (.inr rfl), ?_, upd_same,
            ((is4.mono f6.sub).mono f7.sub).append (.cons i7 .nil), g7⟩
          · rw [is4.length]
            exact Nat.lt_of_lt_of_le hlen4 (by decide)
          · refine ⟨(fr4.sub.trans f6.sub).trans f7.sub, fun z hz' => ?_⟩
            rw [upd_ne (fun (e : z = A) => hz (e ▸ hz'))]
            exact ((f7.kept z (.inl hz')).trans (f6.kept z (.inl hz'))).trans (fr4.kept z hz')
    · have et : t = es.length := by omega
      subst et
      exact .inl ⟨dr2.stop s34 ok4.sub (Nat.le_refl _), n4, acc4, xs4, B4, ok4, fr4, hA4, is4, jd n4 acc4 hJ⟩
  · have ec : c = ds.length := by omega
    subst ec
    refine .inl ⟨dr.stop fr'.sub ok'.sub (Nat.le_refl _), ?_⟩
    have z2 := (ok'.zs A (.inr rfl)).2.1
    exact k _ _ n _ _ (ok'.thaw hA' hz)
      (f1.trans ⟨fr'.sub.trans (same_new z2), fr'.kept⟩)
      (.lst upd_same (is'.mono (same_new z2))) (hd n acc hI)
/-- the same, told by functions -/
theorem e_lc2xf {i j : Nat} (hi : ρ[i]? = some none) (hj : ρ[j]? = some none) (hij : i ≠ j)
    (h : IvC K l ti ρ m fun m1 ds => ∃ (α β : Type) (xs : List α) (ys : α → List β) (g : α → D) (g' : α → β → D) (p : α → β → Bool) (f : α → β → D),
      ds = xs.map g ∧ (xs.flatMap fun a => (ys a)).length ≤ 90000 ∧
      (∀ (c : Nat) a, xs[c]? = some a → IvC K l ti2 (ρ.set i (some (.dat (g a)))) m1 fun n1 es => n1 = m1 ∧ es = (ys a).map (g' a) ∧
        (∀ (t : Nat) b, (ys a)[t]? = some b → TvC K l tt ((ρ.set i (some (.dat (g a)))).set j (some (.dat (g' a b)))) m1 fun n2 q => n2 = m1 ∧ q = p a b) ∧
        (∀ (t : Nat) b, (ys a)[t]? = some b → p a b = true → EvC K l te ((ρ.set i (some (.dat (g a)))).set j (some (.dat (g' a b)))) m1 fun n2 y => n2 = m1 ∧ y = f a b)) ∧
      Φ m1 (.lst (xs.flatMap fun a => ((ys a).filter (p a)).map (f a)))) :
    EvC K l (tLc2 ti (gName i) tYes ti2 (gName j) tt te [i, j] [j]) ρ m Φ := by
  refine e_lc2x hi hj hij (i_imp h fun m1 ds q => ?_)
  obtain ⟨α, β, xs, ys, g, g', p, f, rfl, hl, hb, hq⟩ := q
  have part : ∀ (c : Nat) (a : α), xs[c]? = some a → ((xs.take c).flatMap fun a => ys a).length + (ys a).length ≤ 90000 := fun c a e => by
    refine Nat.le_trans ?_ hl
    have e2 : xs.take (c + 1) = xs.take c ++ [a] := by rw [List.take_add_one, e]; rfl
    have : ((xs.take (c + 1)).flatMap fun a => ys a).length ≤ (xs.flatMap fun a => ys a).length := by
      conv => rhs; rw [← List.take_append_drop (c + 1) xs]
      rw [List.flatMap_append, List.length_append]
      omega
    rw [e2, List.flatMap_append, List.length_append] at this
    simpa using this
  have less : ∀ (L : List α), (L.flatMap fun a => ((ys a).filter (p a)).map (f a)).length ≤ (L.flatMap fun a => ys a).length := fun L => by
    induction L with
    | nil => exact Nat.le_refl _
    | cons a L ih =>
      rw [List.flatMap_cons, List.flatMap_cons, List.length_append, List.length_append, List.length_map]
      have := List.length_filter_le (p a) (ys a)
      omega
  refine ⟨fun c n acc => n = m1 ∧ acc = (xs.take c).flatMap fun a => ((ys a).filter (p a)).map (f a), ⟨rfl, rfl⟩, fun c n acc d hd hI => ?_, fun n acc hI => ?_⟩
  · obtain ⟨rfl, rfl⟩ := hI
    rw [List.getElem?_map, Option.map_eq_some_iff] at hd
    obtain ⟨a, ex, rfl⟩ := hd
    refine i_imp (hb c a ex) fun n1 es e => ?_
    obtain ⟨rfl, rfl, ht, he⟩ := e
    refine ⟨fun t n acc => n = n1 ∧ acc = ((xs.take c).flatMap fun a => ((ys a).filter (p a)).map (f a)) ++ (((ys a).take t).filter (p a)).map (f a), ⟨rfl, by simp⟩, fun t n acc e hd hJ => ?_, fun n acc hJ => ?_⟩
    · obtain ⟨rfl, rfl⟩ := hJ
      rw [List.getElem?_map, Option.map_eq_some_iff] at hd
      obtain ⟨b, ey, rfl⟩ := hd
      refine ⟨?_, t_imp (ht t b ey) fun n2 q e2 => ?_⟩
      · have h1 := part c a ex
        have h2 := less (xs.take c)
        have h3 := List.length_filter_le (p a) ((ys a).take t)
        have h4 : ((ys a).take t).length ≤ (ys a).length := by rw [List.length_take]; omega
        rw [List.length_append, List.length_map]
        omega
      · obtain ⟨rfl, rfl⟩ := e2
        have tk : (ys a).take (t + 1) = (ys a).take t ++ [b] := by rw [List.take_add_one, ey]; rfl
        cases e : p a b with
        | true =>
          rw [if_pos rfl]
          refine e_imp (he t b ey e) fun n3 y e3 => ?_
          obtain ⟨rfl, rfl⟩ := e3
          refine ⟨rfl, ?_⟩
          rw [tk, List.filter_append, List.map_append, List.filter_cons, if_pos e]
          simp
        | false =>
          rw [if_neg Bool.false_ne_true]
          refine ⟨rfl, ?_⟩
          rw [tk, List.filter_append, List.filter_cons, if_neg (by rw [e]; exact Bool.false_ne_true)]
          simp
    · obtain ⟨rfl, rfl⟩ := hJ
      refine ⟨rfl, ?_⟩
      rw [List.length_map, List.take_length, List.take_add_one, ex, List.flatMap_append]
      simp
  · obtain ⟨rfl, rfl⟩ := hI
    rw [List.length_map, List.take_length]
    exact hq
end
section
variable {K : PySem.W.Frag} {l : Option Addr} {ρ : Ro} {m : Nat} {Φ : Nat → D → Prop}
end
end Wt

namespace Wt
open PySem PySem.Spec PyProof.Rows L2
section
variable {K : PySem.W.Frag} {l : Option Addr} {ρ : Ro} {m : Nat} {Φ : Nat → D → Prop}
end
end Wt

namespace PySem.W
open PySem PySem.Spec PySem.Calls PyProof.Rows PySem.SeqAt
section
variable {prog : Program} {w : World} {A : Around} {E : Value → Shared → Prop} {s : Shared}
end
end PySem.W
namespace Wt
open PySem PySem.Spec PyProof.Rows L2
section
variable {K : PySem.W.Frag} {l : Option Addr} {ρ : Ro} {m : Nat} {Φ : Nat → D → Prop} {ta tb te : TE} {tt : TT}
end
end Wt

namespace Wt
open PySem PySem.Spec PyProof.Rows L2
section
variable {K : PySem.W.Frag} {l : Option Addr} {ρ : Ro} {m : Nat} {Nx : Nat → Ro → Prop} {Rt : Nat → D → Prop} {te : TE} {tA : TA}
variable {Φ : Nat → D → Prop}
end
end Wt

namespace Wt
open PySem PySem.Spec PyProof.Rows L2
abbrev BxL := List D × List D
structure BlE (K : PySem.W.Frag) (B H : Hp) (e : Ent) (q : BxL) : Prop where
  key : KeyE K B e q.1
  val : ∃ vs, H e.2.2 = some (.lst vs) ∧ IsAll K B vs q.2
theorem BlE.keys {K : PySem.W.Frag} {B H : Hp} : ∀ {L : List Ent} {kvs : List BxL}, Paired (BlE K B H) L kvs → Paired (KeyE K B) L (kvs.map (·.1))
  | _, _, .nil => .nil
  | _, _, .cons r p => .cons r.key (BlE.keys p)
theorem BlE.more {K : PySem.W.Frag} {B H B2 H2 : Hp} (s : Same B B2) : ∀ {L : List Ent} {kvs : List BxL}, (∀ z ∈ bxs L, H2 z = H z) → Paired (BlE K B H) L kvs → Paired (BlE K B2 H2) L kvs
  | _, _, _, .nil => .nil
  | _, _, k, .cons r p => .cons ⟨r.key.mono s, by
      obtain ⟨vs, e, i⟩ := r.val
      exact ⟨vs, by rw [k _ List.mem_cons_self]; exact e, i.mono s⟩⟩ (BlE.more s (fun z hz => k z (List.mem_cons_of_mem _ hz)) p)
section
variable {K : PySem.W.Frag} {l : Option Addr} {w : World} {i : Nat} {ts tu tb : TS} {ρ : Ro} {m : Nat} {kvs : List BxL} {Nx Nx' : Nat → Ro → List BxL → Prop}
variable {tl te tk : TE} {tA : TA}
open Classical in
noncomputable def pushQ (t : List D) (d : D) (q : BxL) : BxL := if q.1 = t then (q.1, q.2 ++ [d]) else q
theorem pushQ_pos {t : List D} {d : D} {q : BxL} (h : q.1 = t) : pushQ t d q = (q.1, q.2 ++ [d]) := if_pos h
theorem pushQ_neg {t : List D} {d : D} {q : BxL} (h : ¬ q.1 = t) : pushQ t d q = q := if_neg h
open Classical in
noncomputable def pushB (kvs : List BxL) (t : List D) (d : D) : List BxL :=
  if t ∈ kvs.map (·.1) then kvs.map (pushQ t d) else kvs ++ [(t, [d])]
theorem pushB_in {kvs : List BxL} {t : List D} {d : D} (h : t ∈ kvs.map (·.1)) : pushB kvs t d = kvs.map (pushQ t d) := if_pos h
theorem pushB_out {kvs : List BxL} {t : List D} {d : D} (h : t ∉ kvs.map (·.1)) : pushB kvs t d = kvs ++ [(t, [d])] := if_neg h
open Classical in
noncomputable def putQ (t : List D) (u : List D) (q : BxL) : BxL := if q.1 = t then (q.1, u) else q
theorem putQ_pos {t u : List D} {q : BxL} (h : q.1 = t) : putQ t u q = (q.1, u) := if_pos h
theorem putQ_neg {t u : List D} {q : BxL} (h : ¬ q.1 = t) : putQ t u q = q := if_neg h
end
end Wt

namespace Wt
open PySem PySem.Spec PyProof.Rows L2
def dputI (kvs : List (Int × D)) (n : Int) (d : D) : List (Int × D) :=
  if (kvs.any fun q => decide (q.1 = n)) = true then kvs.map (fun q => if q.1 = n then (q.1, d) else q) else kvs ++ [(n, d)]
section
variable {K : PySem.W.Frag} {B : Hp}
end
theorem dval_put (kvs : List (Int × D)) (n : Int) (d : D) (k : Int) : dval (dputI kvs n d) k = if n = k then some d else dval kvs k := by
  have app : ∀ (a b : List (Int × D)), dval (a ++ b) k = (dval a k).or (dval b k) := fun a b => by
    unfold dval
    rw [List.find?_append]
    cases a.find? fun q => decide (q.1 = k) <;> rfl
  unfold dputI
  split
  · rename_i h
    clear app
    induction kvs with
    | nil => simp at h
    | cons q r ih =>
      rw [List.map_cons, dval_cons, dval_cons]
      by_cases hq : q.1 = n
      · rw [if_pos hq]
        by_cases hk : n = k
        · rw [if_pos (hq.trans hk), if_pos hk]
        · rw [if_neg (fun z => hk (hq.symm.trans z)), if_neg hk, if_neg (fun z => hk (hq.symm.trans z))]
          by_cases hr : (r.any fun q => decide (q.1 = n)) = true
          · rw [ih hr, if_neg hk]
          · have : r.map (fun q => if q.1 = n then (q.1, d) else q) = r := by
              conv => rhs; rw [← List.map_id r]
              refine List.map_congr_left fun x hx => ?_
              rw [if_neg]
              · rfl
              · intro z
                exact hr (List.any_eq_true.mpr ⟨x, hx, decide_eq_true z⟩)
            rw [this]
      · rw [if_neg hq]
        have hr : (r.any fun q => decide (q.1 = n)) = true := by
          rw [List.any_cons, decide_eq_false hq, Bool.false_or] at h
          exact h
        rw [ih hr]
        by_cases hk : n = k
        · rw [if_pos hk, if_neg (fun z => hq (z.trans hk.symm)), if_pos hk]
        · rw [if_neg hk, if_neg hk]
  · rename_i h
    rw [app]
    by_cases hk : n = k
    · subst hk
      have : dval kvs n = none := by
        unfold dval
        rw [Option.map_eq_none_iff, List.find?_eq_none]
        intro q hq z
        exact h (List.any_eq_true.mpr ⟨q, hq, z⟩)
      rw [this, if_pos rfl, dval_cons, if_pos rfl]
      rfl
    · rw [dval_cons, if_neg hk, if_neg hk, dval_nil]
      cases dval kvs k <;> rfl
section
variable {K : PySem.W.Frag} {l : Option Addr} {w : World} {i : Nat} {ts tu tb tf tr : TS} {ρ : Ro} {m : Nat} {kvs : List BxL} {Nx : Nat → Ro → List BxL → Prop}
variable {tl te tk : TE} {tA : TA} {Nx0 : Nat → Ro → Prop} {Rt : Nat → D → Prop}
end
end Wt

namespace Wt
open PySem PySem.Spec PyProof.Rows L2
/-- what is put into the dict at the address, by key and value -/
abbrev PutT := Hp → Addr → V → V → (Hp → Prop) → Prop
section
variable {K : PySem.W.Frag} {l : Option Addr} {ρ : Ro} {m : Nat} {Nx : Nat → Ro → Prop} {Rt : Nat → D → Prop}
variable {tl tk tv : TE} {tA : TA} {mk : Addr → HO} {put : PutT}
/-- the dict at A so far -/
def DcW (K : PySem.W.Frag) (l : Option Addr) (Z : Addr → Prop) (ρ : Ro) (σ : L2.St) (m : Nat) (B H : Hp) (A : Addr) (S : ObR) (H' : Hp) : Prop :=
  ∃ B' o, Ok K l (fun a => Z a ∨ a = A) m B' H' σ ρ ∧ Fr Z B H B' H' ∧ H' A = some o ∧ S B' A o
structure DcStep (K : PySem.W.Frag) (put : PutT) (S : Nat → ObR) (key val : Nat → D) (n : Nat) : Prop where
  mono : ∀ c, (S c).Mono
  step : ∀ (c : Nat) (B H : Hp) (A : Addr) (o : HO) (y z : V) (R : Hp → Prop), c < n → Same B H → H A = some o → S c B A o → Is K B y (key c) → Is K B z (val c) →
    (∀ o', S (c + 1) B A o' → R (upd H A o')) → put H A y z R
theorem dcw_turn {Z : Addr → Prop} {σ : L2.St} {B H H' : Hp} {A a2 : Addr} {i j c n : Nat} {x y : V} {d e : D} {S : Nat → ObR} {key val : Nat → D} (st : DcStep K put S key val n) (hz : ¬ Z A)
    (hi : ρ[i]? = some none) (hj : ρ[j]? = some none) (hij : i ≠ j) (hc : c < n)
    (hk : EvC K l tk ((ρ.set i (some (.dat d))).set j (some (.dat e))) m fun n2 y => n2 = m ∧ y = key c)
    (hv : EvC K l tv ((ρ.set i (some (.dat d))).set j (some (.dat e))) m fun n2 y => n2 = m ∧ y = val c)
    {B' : Hp} {o : HO} (ok : Ok K l (fun a => Z a ∨ a = A) m B' H' σ ρ) (fr : Fr Z B H B' H') (hA : H' A = some o) (hS : S c B' A o)
    (hp : SqT K H' a2 [x, y]) (px : Is K B' x d) (py : Is K B' y e) :
    g2 K i j (.ref a2) (wipe σ [i, j]) H' fun σ2 H3 => wipe σ2 [i, j] = wipe σ [i, j] ∧ tk σ2 H3 fun y H4 => tv σ2 H4 fun z H5 => put H5 A y z (DcW K l Z ρ σ m B H A (S (c + 1))) := by
  refine ⟨a2, [x, y], rfl, hp, rfl, x, [y], rfl, y, [], rfl, rfl, ?_⟩
  have e1 : ((wipe σ [i, j]).set i (some x)).set j (some y) = (σ.set i (some x)).set j (some y) := by
    show ((((σ.set j none).set i none).set i (some x)).set j (some y)) = _
    rw [List.set_set, List.set_comm _ _ hij, List.set_set, List.set_comm _ _ (Ne.symm hij)]
  have e2 : wipe ((σ.set i (some x)).set j (some y)) [i, j] = wipe σ [i, j] := by
    show (((σ.set i (some x)).set j (some y)).set j none).set i none = (σ.set j none).set i none
    rw [List.set_set, List.set_comm _ _ hij, List.set_set]
  rw [e1]
  refine ⟨e2, ?_⟩
  have hj2 : (ρ.set i (some (.dat d)))[j]? = some none := by rw [List.getElem?_set_ne hij]; exact hj
  refine hk _ B' H' _ _ ((ok.set px).set py) fun yk dk n1 B1 H1 o1 f1 i1 g1 => ?_
  obtain ⟨rfl, rfl⟩ := g1
  refine hv _ B1 H1 _ _ o1 fun zk dz n2 B2 H2 o2 f2 i2 g2' => ?_
  obtain ⟨rfl, rfl⟩ := g2'
  have hA2 : H2 A = some o := by rw [f2.kept A (.inr rfl), f1.kept A (.inr rfl)]; exact hA
  have o3 := (o2.unset hj2).unset hi
  refine st.step c B2 H2 A o yk zk _ hc o3.sub hA2 (st.mono c _ _ _ _ (f1.sub.trans f2.sub) hS) (i1.mono f2.sub) i2 fun o' hS' => ?_
  refine ⟨B2, o', o3.write (.inr rfl), ⟨(fr.sub.trans f1.sub).trans f2.sub, fun z hz' => ?_⟩, upd_same, hS'⟩
  rw [upd_ne (fun (q : z = A) => hz (q ▸ hz')), f2.kept z (.inl hz'), f1.kept z (.inl hz')]
  exact fr.kept z hz'
end
end Wt

namespace Wt
open PySem PySem.Spec PyProof.Rows L2
section
variable {X : Cx}
variable {wi : TI} {g : TG} {tk tv : TE} {tg kx vx iter : Expr} {scope : Scope} {own : List (Str × Nat)} {pos : Pos}
end
end Wt

namespace Wt
open PySem PySem.Spec PyProof.Rows L2
open Classical in
noncomputable def putV (kvs : List (List D × D)) (t : List D) (d : D) : List (List D × D) :=
  if t ∈ kvs.map (·.1) then kvs.map (fun q => if q.1 = t then (q.1, d) else q) else kvs ++ [(t, d)]
open Classical in
theorem putV_in {kvs : List (List D × D)} {t : List D} {d : D} (h : t ∈ kvs.map (·.1)) : putV kvs t d = kvs.map (fun q => if q.1 = t then (q.1, d) else q) := if_pos h
theorem putV_out {kvs : List (List D × D)} {t : List D} {d : D} (h : t ∉ kvs.map (·.1)) : putV kvs t d = kvs ++ [(t, d)] := if_neg h
open Classical in
theorem putV_nd {kvs : List (List D × D)} {t : List D} {d : D} (h : (kvs.map (·.1)).Nodup) : ((putV kvs t d).map (·.1)).Nodup := by
  by_cases e : t ∈ kvs.map (·.1)
  · rw [putV_in e, List.map_map]
    have : ((fun q : List D × D => q.1) ∘ fun q => if q.1 = t then (q.1, d) else q) = fun q => q.1 := by
      funext q
      show (if q.1 = t then (q.1, d) else q).1 = q.1
      split <;> rfl
    rw [this]
    exact h
  · rw [putV_out e, List.map_append, List.nodup_append]
    exact ⟨h, by simp, fun a ha b hb z => e (by rw [List.map_singleton, List.mem_singleton] at hb; have hb : b = t := hb; rw [← hb, ← z]; exact ha)⟩
section
variable {K : PySem.W.Frag} {B : Hp} {w : World}
end
section
variable {K : PySem.W.Frag} {l : Option Addr} {ρ : Ro} {m : Nat} {Nx : Nat → Ro → Prop} {Rt : Nat → D → Prop} {w : World}
variable {te tk ta tc : TE} {tA : TA} {ti : TI} {tb : TS} {Φ : Nat → D → Prop}
end
end Wt

namespace Wt
open PySem PySem.Spec PyProof.Rows L2
section
variable {X : Cx} {wi : TI} {g : TG} {tk tv : TE} {tg kx vx iter : Expr} {scope : Scope} {own : List (Str × Nat)} {pos : Pos}
end
end Wt

namespace Wt
open PySem PySem.Spec PyProof.Rows L2
def ItEL (K : PySem.W.Frag) (a : Addr) : It where
  go := fun i H => ∃ xs : List V, SqL K H a xs ∧ i < xs.length
  yld := fun i H v H' => ∃ T x, v = .ref T ∧ H T = none ∧
    H' = upd H T (.tup [.int (i : Nat), x]) ∧
    ∀ xs, SqL K H a xs → xs[i]? = some x
  stop := fun i H => ∃ xs : List V, SqL K H a xs ∧ i = xs.length
def tnEL (n a i : Nat) (h : Heap) : Prop :=
  (∃ old, IsEnum h (n + 1) n ((0 : Int) + (i : Int)) old) ∧
    h.IsListIter n a i
theorem goesEL {prog : Program} {w : World} {A : Around} {elts : List Expr}
    {k : Nat} {pos : Pos} {n a : Nat} (hh : A.handled = none) (ha : a < n)
    (xs : Array Value) :
    GoesN prog w A (.Tuple elts k pos) (n + 1) ((n + 1) :: [n, a])
      [n + 1, n] xs.size
      (fun i h0 v h => ∃ T t x, v = .ref T ∧ h0.objs.size ≤ T ∧
        xs[i]? = some x ∧ h.IsTuple T #[.int ((0 : Int) + (i : Int)) t, x])
      (fun i h => (∃ old, IsEnum h (n + 1) n ((0 : Int) + (i : Int)) old) ∧
        h.IsListIter n a i ∧ h.IsList a xs) :=
  GoesN.enumFrom 0
    (Draws.list (A := A.in1) hh n a (Nat.ne_of_lt ha) xs) (n + 1)
    (Nat.succ_ne_self n)
    (by
      intro z
      simp only [List.mem_cons, List.not_mem_nil, or_false] at z
      rcases z with z | z <;> (have z : (_ : Nat) = _ := z; omega))
    List.mem_cons_self
theorem turnEL {P : Program} {w : World} {K : PySem.W.Frag}
    {elts : List Expr} {kk : Nat} {tpos : Pos} {n a : Nat} (ha : a < n) :
    Turn P w K (.Tuple elts kk tpos) (ItEL K a) [n + 1, n] (n + 1)
      (tnEL n a) where
  mem := List.mem_cons_self
  obj := fun i h st x hx => by
    obtain ⟨⟨old, he⟩, ⟨o1, e1, _, d1⟩⟩ := st
    simp only [List.mem_cons, List.not_mem_nil, or_false] at hx
    rcases hx with rfl | rfl
    · exact ⟨_, he, nofun⟩
    · exact ⟨o1, e1, fun v q => by rw [d1] at q; cases q⟩
  keep := fun i h h' st k => by
    obtain ⟨⟨old, he⟩, h1⟩ := st
    exact ⟨⟨old, k _ (by simp) _ he⟩, h1.at fun o q => k n (by simp) o q⟩
  item := by
    intro X hP hw hK hcl i pins s σ H E I hf st hg
    subst hP hw hK
    obtain ⟨he, h1⟩ := id st
    obtain ⟨xs, q1, hi⟩ := hg
    obtain ⟨its1, r1, p1, _⟩ := I.list q1
    have l1 := r1.length
    have lt : ∀ d ∈ [n + 1, n], d < s.heap.objs.size := by
      intro d hd
      obtain ⟨old, he⟩ := he
      obtain ⟨o1, e1, _⟩ := h1
      simp only [List.mem_cons, List.not_mem_nil, or_false] at hd
      rcases hd with rfl | rfl
      · exact Heap.lt_size he
      · exact Heap.lt_size e1
    refine (goesEL (I.ok.hd hcl) ha its1.toArray).goes i s _ E
      (by simp only [List.size_toArray]; omega) ⟨he, h1, p1.isList⟩
      fun v h' tk hY st' hk htk => ?_
    obtain ⟨T, t, x, rfl, hT, e1, hTu⟩ := hY
    obtain ⟨vx, ex⟩ : ∃ vx, xs[i]? = some vx :=
      ⟨xs[i]'hi, List.getElem?_eq_getElem _⟩
    obtain ⟨u1, g1, k1⟩ := r1.get ex
    rw [List.getElem?_toArray, g1] at e1
    cases e1
    have new : ObjOk X.prog X.w (upd H T (.tup [.int (i : Nat), vx])) h' T
        (.tup [.int (i : Nat), vx]) :=
      ⟨by show 2 ≤ sizeLine; decide, [_, x],
        .cons ⟨t, by rw [Int.zero_add]⟩ (.cons k1 .nil), hTu⟩
    have I1 := I.turnedNew (t' := tk) (ch := [n + 1, n])
      (fun d o hd q => hk d o hd q) hf hT new
    obtain ⟨z1, z2, z3⟩ := st'
    refine ⟨.ref T, _, I1, rfl, ⟨T, vx, rfl, I.hok.fresh hT, rfl,
      fun l hl => ?_⟩, ⟨z1, z2⟩, fun d hd => ?_⟩
    · rw [I.list_inj hl q1]; exact ex
    · have := lt d hd
      rw [upd_ne (fun (z : d = T) =>
        Nat.lt_irrefl d (Nat.lt_of_lt_of_le this (z ▸ hT)))]
      exact (hf d hd).1
  done := by
    intro X hP hw hK hcl i pins s σ H E I hf st hg
    subst hP hw hK
    obtain ⟨he, h1⟩ := st
    obtain ⟨xs, q1, hi⟩ := hg
    obtain ⟨its1, r1, p1, _⟩ := I.list q1
    have e : its1.toArray.size = i := by
      have l1 := r1.length
      simp only [List.size_toArray]
      omega
    refine (goesEL (prog := X.prog) (w := X.w) (elts := elts) (k := kk)
      (pos := tpos) (I.ok.hd hcl) ha its1.toArray).stops s _ E
      (by rw [e]; exact ⟨he, h1, p1.isList⟩) fun h' tk hk htk => ?_
    exact I.turnedL (t' := tk) (ch := [n + 1, n])
      (fun d o hd q => hk d o hd q) hf
  self := fun A i s Q E st h => let ⟨⟨_, he⟩, _⟩ := st; wpAny_pyIter_enum he h
theorem callEL {prog : Program} {w : World} {A : Around}
    {E : Value → Shared → Prop} {s : Shared} {a : Addr} {items : Array Value}
    {Q : Value → Shared → Prop} (hT : s.heap.IsList a items)
    (h : ∀ h', IsEnum h' (s.heap.objs.size + 1) s.heap.objs.size 0 .none →
      h'.IsListIter s.heap.objs.size a 0 →
      (∀ b o, s.heap.get? b = some o → h'.get? b = some o) →
      Q (.ref (s.heap.objs.size + 1)) { s with heap := h' }) :
    wpAny (model prog w) A (call (.type "enumerate") [.ref a]) Q E s := by
  refine callType_new F.called_enumerate (by decide)
    (F.typeCall_enumerate_1 _) (F.newCall_enumerate_1 _)
    (fun obj => F.args_object_init_2 obj _) F.entry_enumerate_new
    (meetsE (begins_list a items)) ⟨hT, ?_⟩
  have hz : ∀ o : Obj, (s.heap.push o).objs.size = s.heap.objs.size + 1 :=
    fun o => Heap.size_push ..
  show _ ∧ _
  rw [hz]
  have he : ∀ o : Obj, IsEnum ((s.heap.push o).push (enumO s.heap.objs.size))
      (s.heap.objs.size + 1) s.heap.objs.size 0 .none := by
    intro o
    have := Heap.get?_push_size (s.heap.push o)
      (o := enumO s.heap.objs.size) rfl
    rw [hz] at this
    exact this
  exact ⟨⟨_, he _, rfl⟩, h _ (he _) ⟨_, Heap.get?_push_of_some _
    (Heap.get?_push_size _ rfl), rfl, rfl⟩ fun b o x =>
      Heap.get?_push_of_some _ (Heap.get?_push_of_some _ x)⟩
def iEnL (K : PySem.W.Frag) (ta : TA) : TI := fun σ H R =>
  ta σ H fun vs H1 => ∃ a xs, vs = [.ref a] ∧ SqL K H1 a xs ∧
    R (ItEL K a) H1
theorem pi_enL {X : Cx} {e : Expr} {ta : TA} {p pos tpos : Pos}
    {elts : List Expr} {kk : Nat} (hg : Gl X "enumerate")
    (hm : X.mg "enumerate" = none) (ha : PA X [e] ta)
    (hs : starEach [e] X.env = [(false, eval e X.env)] := by rfl) :
    PI X (.Tuple elts kk tpos) (.Call (.Name "enumerate" p) [e] [] pos)
      (iEnL X.K ta) := by
  refine ⟨fun pins s σ H R I h => ?_⟩
  refine Call_ (ld_blt I hg hm boot_enumerate
    (PyProof.Rows.callWith_type1 (thn (ha.run pos pins s σ H _ I h)
      fun us s1 ⟨vs, H1, I1, r1, q1⟩ => ?_) hs rfl))
  obtain ⟨a, xs, rfl, hq, q⟩ := q1
  cases r1 with
  | cons r rr =>
    cases rr
    cases r
    obtain ⟨its, rv, p', hz⟩ := I1.list hq
    have la : a < s1.heap.objs.size := p'.lt
    refine callEL (show s1.heap.IsList a its.toArray from p'.isList)
      fun h' he hit hk => wpAny_pyIter_enum he ?_
    have I2 : Inv X pins σ H1 { s1 with heap := h' } :=
      I1.kept (t' := s1.toks) hk
    refine ⟨s1.heap.objs.size + 1, _, _, _, H1, rfl, I2, turnEL la,
      ⟨⟨.none, by simpa using he⟩, hit⟩, fun d hd => ?_, q⟩
    have hle : s1.heap.objs.size ≤ d := by
      simp only [List.mem_cons, List.not_mem_nil, or_false] at hd
      rcases hd with z | z <;> (have z : (_ : Nat) = _ := z; omega)
    exact I1.fpOk hle (I1.hok.fresh hle)
theorem walk_enL {K : PySem.W.Frag} {a : Addr} {xs : List V} :
    Walk (ItEL K a) xs.length (fun H => SqL K H a xs)
      (YPair (fun i => some (.int (i : Nat))) (fun i => xs[i]?)) := by
  refine ⟨fun i _ hi q => ⟨xs, q, hi⟩, fun _ q => ⟨xs, q, rfl⟩,
    fun i H v H' _ q y => ?_⟩
  obtain ⟨T, x, h1, h2, h3, h4⟩ := y
  exact ⟨T, .int (i : Nat), x, h1, h2, h3, rfl, h4 xs q⟩
section
variable {K : PySem.W.Frag} {l : Option Addr} {ρ : Ro} {m : Nat}
variable {Φ : Nat → D → Prop} {Θ : Nat → Bool → Prop}
variable {Nx : Nat → Ro → Prop} {Rt : Nat → D → Prop} {ts tb : TS}
variable {ta te tl : TE} {t u : TT} {tA tK : TA}
/-- [e for i, a in enumerate(t)] -/
theorem e_lcEL {i j : Nat} (hi : ρ[i]? = some none) (hj : ρ[j]? = some none)
    (hij : i ≠ j)
    (h : AvC K l tA ρ m fun m1 as => ∃ ys, as = [.lst ys] ∧
      ys.length ≤ 50000 ∧ ∃ I : Nat → Nat → List D → Prop, I 0 m1 [] ∧
      (∀ (c n : Nat) acc e, ys[c]? = some e → I c n acc →
        acc.length = c →
        EvC K l te ((ρ.set i (some (.dat (.int c)))).set j (some (.dat e))) n
          fun n2 y => I (c + 1) n2 (acc ++ [y])) ∧
      ∀ n acc, acc.length = ys.length → I ys.length n acc →
        Φ n (.lst acc)) :
    EvC K l (tLc (iEnL K tA) (g2 K i j) tYes te [i, j]) ρ m Φ := by
  intro Z B H σ Q ok k
  refine h Z B H σ _ ok fun vs as m1 B1 H1 o1 f1 i1 g1 => ?_
  obtain ⟨ys, rfl, hl, I, h0, hs, hd⟩ := g1
  obtain ⟨v, rfl, z1⟩ := isAll1 i1
  cases z1 with
  | @lst a us _ hu r1 =>
    refine ⟨a, us, rfl, SqL.of (o1.sub _ _ hu), fun A hA => ?_⟩
    have hz : ¬ Z A := fun z => (o1.zs A z).1 hA
    refine lc_it (walk_enL (xs := us))
      (LcW K l Z ρ σ B1 H1 A I) (lcw_start o1 hA h0)
      (fun c H' _ w => ?_) (fun c x H' H'' hc w q => ?_) fun H' w => ?_
    · obtain ⟨n, acc, zs, B', ok', fr', _⟩ := w
      exact SqL.of (ok'.sub _ _ (fr'.sub _ _ hu))
    · obtain ⟨T, x1, y1, rfl, hT, rfl, e1, e2⟩ := q
      cases e1
      refine lcw_turn2 (P := fun d e => d = .int (c : Nat) ∧ ys[c]? = some e)
        hz hi hj hij w hT (fun B' sb => ?_)
        (by rw [r1.length] at hc; omega)
        fun d e n acc p => by
          obtain ⟨rfl, p2⟩ := p
          exact hs c n acc e p2
      obtain ⟨e, q2, p2⟩ := (r1.mono sb).get e2
      exact ⟨_, e, .int _, p2, rfl, q2⟩
    · rw [r1.length] at w
      exact lcw_end hz w hd fun v d m' B2 H2 o2 f2 i2 g2 =>
        k v d m' B2 H2 o2 (f1.trans f2) i2 g2
theorem e_lcELf {i j : Nat} (hi : ρ[i]? = some none) (hj : ρ[j]? = some none)
    (hij : i ≠ j)
    (h : AvC K l tA ρ m fun m1 as => ∃ ds, as = [.lst ds] ∧
      ∃ (α : Type) (xs : List α) (g : α → D) (f : Nat → α → D),
      ds = xs.map g ∧ xs.length ≤ 50000 ∧
      (∀ (c : Nat) a, xs[c]? = some a →
        EvC K l te ((ρ.set i (some (.dat (.int c)))).set j
          (some (.dat (g a)))) m1 fun n2 y => n2 = m1 ∧ y = f c a) ∧
      Φ m1 (.lst (xs.mapIdx f))) :
    EvC K l (tLc (iEnL K tA) (g2 K i j) tYes te [i, j]) ρ m Φ := by
  refine e_lcEL hi hj hij (a_imp h fun m1 x q => ?_)
  obtain ⟨ds, rfl, α, xs, g, f, rfl, hc, hb, hq⟩ := q
  refine ⟨_, rfl, by rw [List.length_map]; exact hc, fun i n acc => n = m1 ∧
    acc = (xs.mapIdx f).take i, ⟨rfl, rfl⟩, ?_, ?_⟩
  · intro i n acc d hd hI _
    obtain ⟨rfl, rfl⟩ := hI
    rw [List.getElem?_map] at hd
    cases e : xs[i]? with
    | none => rw [e] at hd; cases hd
    | some a =>
      rw [e] at hd
      cases hd
      refine e_imp (hb i a e) fun n2 y q => ?_
      obtain ⟨rfl, rfl⟩ := q
      refine ⟨rfl, (take_snoc' ?_).symm⟩
      rw [List.getElem?_mapIdx, e]; rfl
  · intro n acc hl hI
    obtain ⟨rfl, rfl⟩ := hI
    rw [List.length_map, List.take_of_length_le (by simp)]
    exact hq
end
end Wt

namespace Wt
open PySem PySem.Spec PyProof.Rows L2
section
variable {K : PySem.W.Frag} {l : Option Addr} {ρ : Ro} {m : Nat}
variable {Φ : Nat → D → Prop} {Nx : Nat → Ro → Prop} {Rt : Nat → D → Prop} {ts tb : TS} {ta te tl : TE} {tA : TA}
end
end Wt

namespace Wt
open PySem PySem.Spec PyProof.Rows L2
section
variable {K : PySem.W.Frag} {l : Option Addr} {ρ : Ro} {m : Nat}
variable {Nx : Nat → Ro → Prop} {Rt : Nat → D → Prop} {Φ : Nat → D → Prop} {te tk : TE}
end
end Wt

namespace Wt
open PySem PySem.Spec PyProof.Rows L2
section
variable {K : PySem.W.Frag} {l : Option Addr} {w : World} {i : Nat} {ts tu tb : TS} {ρ : Ro} {m : Nat} {kvs : List BxL} {Nx : Nat → Ro → List BxL → Prop}
variable {te : TE}
end
end Wt

namespace We
open PySem PySem.W PySem.Calls PyProof.Rows PySem.Spec
section
variable {prog : Program} {w : World} {A : Around} {E : Value → Shared → Prop} {K : Frag} {C fI cc cda : Addr} {hh : Heap} {g : Array GenState} {d : Drawn} {t : Nat} {os : OsState}
variable {mg mb : Str → Option Value} {qual txt fld file : Str} {params : Arguments} {scope : Scope} {dV kV doc pm ct oc ccl cl : Value} {an od cdd cld : Option Addr} {osl ccs csl : Array (Option Value)} {vs : Array Value} {tf : Tok} {ar : Arg}
variable {p0 p1 p2 p3 p4 p5 p6 p7 p8 p9 : Pos}
end
/-- the class at C makes exceptions with the field fld -/
structure ExF (K : Frag) (C : Addr) : Prop where
  cs : (clsIn K C).isSome = true
  exC : subIn K (.ref C) (.type "BaseException") = some true
  tyC : typeIn K (.ref C) = some (.type "type")
  kp : keepIn K (.ref C) = true
  ga : findIn K (.ref C) "__getattribute__" = some (some (.builtin "BaseException.__getattribute__"))
  gg : findIn K (.ref C) "__getattr__" = some none
  hd : hasDictIn K C = true
  cl : findIn K (.ref C) "__class__" = some (some (.builtin "object.__class__"))
  cg : specialIn K (.builtin "object.__class__") "__get__" = some (some (.builtin "getset_descriptor.__get__"))
  ct : takesIn K (.builtin "object.__class__") = some true
  mo : mroIn K C (.type "object") = some true
structure Ex (P : Program) (K : Frag) (mg : Str → Option Value) (C : Addr) (fld : Str) : Prop extends ExF K C where
  make : ∀ {w : World} {A : Around} {E : Value → Shared → Prop} {hh : Heap} {g : Array GenState} {d : Drawn} {t : Nat} {os : OsState} {mb : Str → Option Value} {u : Value} {Q : Value → Shared → Prop},
    K.In hh → hh.Ns mainGlobals mg → hh.Ns builtinsNs mb → (∀ x : Str, x ≠ "__name__" → mb x = bootBuiltins x) → hh.NoLimit → (A.under (.builtin "type.__call__" ⟨[.ref C, u], []⟩)).depth < recursionLimit →
    (∀ (e t0 dx : Addr) (h' : Heap) (t' : Nat), (∀ b o, hh.get? b = some o → h'.get? b = some o) → hh.objs.size ≤ e → hh.objs.size ≤ dx → dx ≠ e →
      h'.get? e = some (excObj C t0 (some dx) .none) → (∃ hs : Int, ∃ tk, h'.get? dx = some (dictOf [⟨hs, .str fld tk, u⟩] 1)) → Q (.ref e) ⟨h', g, d, t', os⟩) →
    wpAny (model P w) A (call (.ref C) [u]) Q E ⟨hh, g, d, t, os⟩
  no : findIn K (.ref C) fld = some none
end We

namespace Wt
open PySem PySem.Spec PyProof.Rows L2
/-- a caught exception, known from now on -/
def exh (a : Addr) (cls : Value) (d : Option Addr) : HO := .ext fun h => ∃ oe vs, h.get? a = some oe ∧ Zc cls d oe ∧ oe.data = .fields vs
theorem exh_ok {P : Program} {w : World} {H : Hp} {h : Heap} {a : Addr} {cls : Value} {d : Option Addr} {oe : Obj} {vs : Array Value} (e : h.get? a = some oe) (z : Zc cls d oe) (f : oe.data = .fields vs) : ObjOk P w H h a (exh a cls d) :=
  ⟨⟨oe, vs, e, z, f⟩, ⟨oe, e⟩, fun h1 h2 q k => by
    obtain ⟨o, v, q1, q2⟩ := q
    exact ⟨o, v, k _ q1, q2⟩⟩
section
variable {X : Cx} {x : Str} {C : Addr} {fld : Str} {e : Expr} {te : TE} {p pos : Pos} {k : Nat}
end
section
variable {X : Cx} {pins : List (Addr × Obj)} {σ : L2.St} {H : Hp} {s : Shared}
theorem Inv.known (I : Inv X pins σ H s) {a : Addr} {cls : Value} {d : Option Addr} {oe : Obj} {vs : Array Value} (ha : s.heap.get? a = some oe) (z : Zc cls d oe) (f : oe.data = .fields vs) (na : H a = none) (nL : a ≠ X.env.locals) (n0 : X.s_0.heap.get? a = none)
    (np : ∀ p ∈ X.pn ++ pins, p.1 ≠ a) : Inv X pins σ (upd H a (exh a cls d)) s := by
  have hne : ∀ {b : Addr} {o : HO}, H b = some o → b ≠ a := fun {b o} e z => by rw [z, na] at e; cases e
  have u : Un X.fs X.ex X.H_0 (upd H a (exh a cls d)) X.s_0.heap s.heap := ⟨I.base.keep, I.base.slot, fun b o e n hx => by
    have : b ≠ a := fun z => by rw [z, n0] at e; cases e
    rw [upd_ne this]
    exact I.base.free b o e n hx, I.base.there, fun b xs e => by
      have := I.base.tups b xs e
      rw [upd_ne (hne this)]; exact this, fun b o v e => by
      have := I.base.frzs b o v e
      rw [upd_ne (hne this)]; exact this, fun b ps e => by
      obtain ⟨m, q⟩ := I.base.tbls b ps e
      exact ⟨m, by rw [upd_ne (hne q)]; exact q⟩⟩
  refine ⟨I.ok, I.os, I.bare, u, I.loc, I.cell, by rw [upd_ne (Ne.symm nL)]; exact I.free, fun y c e => ?_, fun p hp => ?_, fun b o e => ?_, I.len⟩
  · have : c ≠ a := fun z => by
      obtain ⟨v, o, ho, hd⟩ := I.cell y c e
      rw [z, ha] at ho; cases ho
      rw [f] at hd; cases hd
    rw [upd_ne this]
    exact I.freeC y c e
  · obtain ⟨q1, q2, q3⟩ := I.pin p hp
    exact ⟨q1, by rw [upd_ne (np p hp)]; exact q2, q3⟩
  · by_cases hb : b = a
    · subst hb
      rw [upd_same] at e
      cases e
      exact exh_ok ha z f
    · rw [upd_ne hb] at e
      exact (I.hok b o e).stay (fun _ _ _ q => q) (fun c q => by rw [upd_ne (hne q)]; exact q) fun c xs q => by rw [upd_ne (hne q)]; exact q
end
section
variable {X : Cx} {x n : Str} {c : Value} {i : Nat} {body suite : List Stmt} {b₀ : Stmt} {np pos pos' : Pos} {tb : WX → TS} {ts : TS} {Wout : WX}
end
end Wt

namespace Wt
open PySem PySem.Spec PyProof.Rows L2
section
variable {P : Program} {w : World} {K : PySem.W.Frag} {mg : Str → Option Value} {base : Heap}
end
section
variable {X : Cx} {k : Nat} {f : Addr} {fd : FuncData} {ps : List Str} {sp : Sp} {dvs : List V} {ds : List Value} {W : WX} {x : Str} {p pos : Pos} {e : Expr} {es : List Expr} {t : TA}
end
def exR (K : PySem.W.Frag) (C : Addr) (f : Str) (d : D) : ObR := fun B a o => ∃ dd v, o = exh a (.ref C) (some dd) ∧ B dd = some (.xd [(f, v)]) ∧ Is K B v d
/-- isinstance(e, c) -/
def rIsX (K : PySem.W.Frag) : List V → Hp → VK → Prop := fun xs H Q => ∃ (a C d : Addr) (fs : List (Str × V)) (c : V) (cv : Value) (b : Bool), xs = [.ref a, c] ∧ H a = some (exh a (.ref C) (some d)) ∧ H d = some (.xd fs) ∧ ClsV c cv ∧ We.ExF K C ∧ PySem.W.kitOne K (.ref C) cv = some b ∧ Q (.bl b) H
/-- isinstance(e, (c, ..)) -/
def rIsXT (K : PySem.W.Frag) : List V → Hp → VK → Prop := fun xs H Q => ∃ (a C d tp : Addr) (fs : List (Str × V)) (cs : List V) (us : List Value) (b : Bool), xs = [.ref a, .ref tp] ∧ H tp = some (.tup cs) ∧ H a = some (exh a (.ref C) (some d)) ∧ H d = some (.xd fs) ∧ Paired ClsV cs us ∧ We.ExF K C ∧ PySem.W.kitAny K (.ref C) us = some b ∧ Q (.bl b) H
/-- e.f -/
def tXfH (K : PySem.W.Frag) (f : Str) (te : TE) : TE := fun σ H Q => te σ H fun x H1 => ∃ (a C dd : Addr) (fs : List (Str × V)) (v : V), x = .ref a ∧ H1 a = some (exh a (.ref C) (some dd)) ∧ H1 dd = some (.xd fs) ∧ We.ExF K C ∧ PySem.W.findIn K (.ref C) f = some none ∧ fs.lookup f = some v ∧ Q v H1
section
variable {X : Cx} {pins : List (Addr × Obj)} {σ : L2.St} {H : Hp} {s : Shared}
end
section
variable {X : Cx}
end
section
variable {K : PySem.W.Frag} {l : Option Addr} {ρ : Ro} {m : Nat} {W : WX}
variable {Φ : Nat → D → Prop} {Ψ : Nat → List D → Prop} {Ξ : Nat → Ro → Addr → Str → D → Prop} {te : TE} {ta tA : TA} {ts tu : TS} {tt : TT}
variable {Nx : Nat → Ro → Prop} {Rt : Nat → D → Prop}
/-- what is wanted where an exception leaves -/
def XkC (K : PySem.W.Frag) (l : Option Addr) (W : WX) (Z : Addr → Prop) (B H : Hp) (Ξ : Nat → Ro → Addr → Str → D → Prop) : Prop :=
  ∀ C f d v dd σ' ρ' m' B2 H2, Ok K l Z m' B2 H2 σ' ρ' → Fr Z B H B2 H2 → B2 dd = some (.xd [(f, v)]) → Is K B2 v d → Ξ m' ρ' C f d → W (.ref C) (some dd) σ' H2
theorem XkC.on {Z : Addr → Prop} {B H B1 H1 : Hp} (x : XkC K l W Z B H Ξ) (f1 : Fr Z B H B1 H1) : XkC K l W Z B1 H1 Ξ :=
  fun C f d v dd σ' ρ' m' B2 H2 o2 f2 => x C f d v dd σ' ρ' m' B2 H2 o2 (f1.trans f2)
theorem Ok.clear {Z : Addr → Prop} {B H : Hp} {σ : L2.St} {i : Nat} (h : Ok K l Z m B H σ ρ) : Ok K l Z m B H (σ.set i none) (ρ.set i none) := by
  have keep : ∀ {j : Nat} {s : Sl}, (ρ.set i none)[j]? = some (some s) → i ≠ j ∧ ρ[j]? = some (some s) := fun {j s} e => by
    have hj : i ≠ j := fun z => by
      subst z
      rcases Nat.lt_or_ge i ρ.length with hi | hi
      · rw [List.getElem?_set_self hi] at e; cases e
      · rw [List.getElem?_eq_none (by rw [List.length_set]; exact hi)] at e; cases e
    exact ⟨hj, by rwa [List.getElem?_set_ne hj] at e⟩
  refine { h.toBs with len := ?_, sl := ?_, dis := ?_ }
  · rw [List.length_set, List.length_set]; exact h.len
  · intro j s e
    obtain ⟨hj, e⟩ := keep e
    rw [List.getElem?_set_ne hj]
    exact h.sl j s e
  · intro j k s t a n p1 p2 e1 e2
    obtain ⟨hj, e1⟩ := keep e1
    obtain ⟨hk, e2⟩ := keep e2
    rw [List.getElem?_set_ne hj, List.getElem?_set_ne hk]
    exact h.dis j k s t a n p1 p2 e1 e2
theorem e_isX {j : Nat} {C : Addr} {f : Str} {d : D} {c : V} {cv : Value} {b : Bool} (hj : ρ[j]? = some (some (.obj (exR K C f d)))) (hc : ClsV c cv) (T : We.ExF K C) (hk : PySem.W.kitOne K (.ref C) cv = some b) (q : Φ m (.bl b)) :
    EvC K l (tCB (rIsX K) (tCons (tVar j) (tCons (tC c) tNil))) ρ m Φ := by
  intro Z B H σ Q ok k
  obtain ⟨v, e1, a, o, rfl, q1, q2, q3, q4, ⟨dd, v, rfl, hd, iv⟩, q6⟩ := ok.sl j _ hj
  exact ⟨_, e1, a, C, dd, _, c, cv, b, rfl, q1, ok.sub _ _ hd, hc, T, hk, k _ _ m B H ok Fr.refl (.bl b) q⟩
theorem e_xfH {j : Nat} {C : Addr} {f : Str} {d : D} (hj : ρ[j]? = some (some (.obj (exR K C f d)))) (T : We.ExF K C) (hno : PySem.W.findIn K (.ref C) f = some none) (q : Φ m d) :
    EvC K l (tXfH K f (tVar j)) ρ m Φ := by
  intro Z B H σ Q ok k
  obtain ⟨v, e1, a, o, rfl, q1, q2, q3, q4, ⟨dd, v, rfl, hd, iv⟩, q6⟩ := ok.sl j _ hj
  refine ⟨_, e1, a, C, dd, _, v, rfl, q1, ok.sub _ _ hd, T, hno, ?_, k _ _ m B H ok Fr.refl iv q⟩
  rw [List.lookup_cons, beq_self_eq_true]
/-- the values of classes -/
def clsA : List V → TA
  | [] => tNil
  | c :: r => tCons (tC c) (clsA r)
theorem clsA_run {H : Hp} {σ : L2.St} {Q : List V → Hp → Prop} : ∀ {cs : List V}, Q cs H → clsA cs σ H Q
  | [], h => h
  | c :: r, h => clsA_run (cs := r) (Q := fun xs H2 => Q (c :: xs) H2) h
theorem e_isXT {j : Nat} {C : Addr} {f : Str} {d : D} {cs : List V} {us : List Value} {b : Bool} {tcs : TA} (hj : ρ[j]? = some (some (.obj (exR K C f d)))) (he : tcs = clsA cs) (hl : cs.length ≤ 100) (hc : Paired ClsV cs us) (T : We.ExF K C) (hk : PySem.W.kitAny K (.ref C) us = some b) (q : Φ m (.bl b)) :
    EvC K l (tCB (rIsXT K) (tCons (tVar j) (tCons (tTup tcs) tNil))) ρ m Φ := by
  subst he
  intro Z B H σ Q ok k
  obtain ⟨v, e1, a, o, rfl, q1, q2, q3, q4, ⟨dd, v, rfl, hd, iv⟩, q6⟩ := ok.sl j _ hj
  refine ⟨_, e1, clsA_run ⟨Nat.le_trans hl (by decide), fun p hp => ?_⟩⟩
  obtain ⟨o2, f2⟩ := ok.new (o := .tup cs) hp
  exact ⟨a, C, dd, p, _, cs, us, b, rfl, upd_same, by rw [upd_ne (ne_of_none q1 hp)]; exact q1, by rw [upd_ne (ne_of_none (ok.sub _ _ hd) hp)]; exact ok.sub _ _ hd, hc, T, hk, k _ _ m _ _ o2 f2 (.bl b) q⟩
end
end Wt

namespace We
open PySem PySem.W PySem.Calls PyProof.Rows PySem.Spec L2
end We

namespace Wt
open PySem PySem.Spec PyProof.Rows L2
section
variable {K : PySem.W.Frag} {l : Option Addr} {ρ : Ro} {m : Nat}
variable {te tl : TE} {tA : TA} {Nx : Nat → Ro → Prop} {Rt : Nat → D → Prop}
end
end Wt

namespace Wt
open PySem PySem.Spec PyProof.Rows L2
section
variable {K : PySem.W.Frag} {l : Option Addr} {ρ : Ro} {m : Nat} {Φ : Nat → D → Prop} {tA : TA}
end
end Wt

namespace Wt
open PySem PySem.Spec PyProof.Rows L2
section
variable {K : PySem.W.Frag} {l : Option Addr} {ρ : Ro} {m : Nat} {Φ : Nat → D → Prop} {tA : TA} {te : TE} {tb : TS}
variable {Nx : Nat → Ro → Prop} {Rt : Nat → D → Prop}
end
end Wt

namespace Wt
open PySem PySem.Spec PyProof.Rows L2
def rMinD (K : PySem.W.Frag) : List V → Hp → VK → Prop := fun vs H Q =>
  ∃ (a : Addr) (xs : List V) (B : Hp) (d0 : D) (ds : List D), vs = [V.ref a] ∧ SqL K H a xs ∧ Same B H ∧ IsAll K B xs (d0 :: ds) ∧ D.plains (d0 :: ds) = true ∧
  PySem.W.AlikeAll ((d0 :: ds).map D.py) ∧ PyData.depthAll ((d0 :: ds).map D.py) ≤ 60 ∧
  ∀ (i : Nat) x d, xs[i]? = some x → (d0 :: ds)[i]? = some d → d.py = PySem.W.minD d0.py (ds.map D.py) → Q x H
theorem vals_at {xs : List V} {us : List Value} (h : Vals xs us) : ∀ {i : Nat} {u : Value}, us[i]? = some u → ∃ x, xs[i]? = some x ∧ RelV x u := by
  induction h with
  | nil => intro i u e; simp at e
  | @cons x u' xs us r rs ih =>
    intro i u e
    cases i with
    | zero => cases e; exact ⟨x, rfl, r⟩
    | succ i => exact ih (i := i) e
theorem plains_get : ∀ {ds : List D} {i : Nat} {d : D}, D.plains ds = true → ds[i]? = some d → d.plain = true
  | [], i, d, _, e => by simp at e
  | x :: ds, 0, d, h, e => by
    rw [D.plains, Bool.and_eq_true] at h
    cases e
    exact h.1
  | x :: ds, i + 1, d, h, e => by
    rw [D.plains, Bool.and_eq_true] at h
    exact plains_get (i := i) h.2 e
theorem cr_minD {X : Cx} (hc : X.calm = true) (hu : X.A.units + 64 < cLine) : CallR X (.builtin "min") (rMinD X.K) := by
  intro pins s σ H vs us Q I r h
  obtain ⟨a, xs, B, d0, ds, rfl, hs, sb, is, hp, hal, hd, q⟩ := h
  obtain ⟨its, rv, pl, _⟩ := I.list hs
  rw [Vals.ref1 r]
  obtain ⟨as, ra, _⟩ := IsAll.reads I sb is hp rv
  rw [pys_map] at ra
  refine PySem.W.min_list_data (x := d0.py) (xs := ds.map D.py) (I.ok.hd hc) pl.isList ra hal (by
    have : PyData.depthAll (d0.py :: ds.map D.py) ≤ 60 := hd
    omega) fun i v h' tk bs hv hr hk => ?_
  have hv : its[i]? = some v := by simpa using hv
  obtain ⟨x, hx, rx⟩ := vals_at rv hv
  obtain ⟨d, hdi, isd⟩ := is.get hx
  obtain ⟨as2, r2, _⟩ := Is.reads I sb isd (plains_get hp hdi) rx
  have e := (reads_det (fun b o e _ => hk b o e) r2 hr).1
  exact ⟨x, H, I.kept hk, rx, q i x d hx hdi e.symm⟩
section
variable {K : PySem.W.Frag} {l : Option Addr} {ρ : Ro} {m : Nat} {Φ : Nat → D → Prop}
theorem v_minD {d0 : D} {ds : List D} (hp : D.plains (d0 :: ds) = true) (hal : PySem.W.AlikeAll ((d0 :: ds).map D.py)) (hd : PyData.depthAll ((d0 :: ds).map D.py) ≤ 60)
    (q : ∀ d ∈ d0 :: ds, d.py = PySem.W.minD d0.py (ds.map D.py) → Φ m d) :
    VvC K l ρ (rMinD K) [.lst (d0 :: ds)] m Φ := by
  intro Z B H σ vs Q ok is k
  obtain ⟨v, rfl, h2⟩ := isAll1 is
  cases h2 with
  | @lst a us _ hu r =>
    refine ⟨a, us, B, d0, ds, rfl, SqL.of (ok.sub _ _ hu), ok.sub, r, hp, hal, hd, fun i x d hx hdi e => ?_⟩
    obtain ⟨d', hd', isd⟩ := r.get hx
    rw [hdi] at hd'
    cases hd'
    exact k _ _ m B H ok Fr.refl isd (q d (List.mem_of_getElem? hdi) e)
end
end Wt

namespace Wt
open PySem PySem.Spec PyProof.Rows L2
section
variable {X : Cx}
end
section
variable {K : PySem.W.Frag} {l : Option Addr} {ρ : Ro} {m : Nat}
variable {Φ : Nat → D → Prop} {ta : TE}
end
end Wt

namespace Wt
open PySem PySem.Spec PyProof.Rows L2
section
variable {X : Cx} {o e : Expr} {apos cpos : Pos} {td ty : TE}
end
section
variable {K : PySem.W.Frag} {w : World} {l : Option Addr} {ρ : Ro} {m : Nat}
variable {Nx : Nat → Ro → Prop} {Rt : Nat → D → Prop} {Φ : Nat → D → Prop} {tk : TE}
end
end Wt

namespace Wt
open PySem PySem.Spec PyProof.Rows L2
def tEither (t1 t2 : TE) : TE := fun σ H Q => t1 σ H Q ∨ t2 σ H Q
theorem pe_either {X : Cx} {e : Expr} {t1 t2 : TE} (h1 : PE X e t1) (h2 : PE X e t2) : PE X e (tEither t1 t2) :=
  ⟨fun pins s σ H Q I h => h.elim (h1.run pins s σ H Q I) (h2.run pins s σ H Q I)⟩
section
variable {K : PySem.W.Frag} {l : Option Addr} {ρ : Ro} {m : Nat} {Φ : Nat → D → Prop} {t1 t2 : TE}
theorem e_eitherL (h : EvC K l t1 ρ m Φ) : EvC K l (tEither t1 t2) ρ m Φ := fun Z B H σ Q ok k => .inl (h Z B H σ Q ok k)
theorem e_eitherR (h : EvC K l t2 ρ m Φ) : EvC K l (tEither t1 t2) ρ m Φ := fun Z B H σ Q ok k => .inr (h Z B H σ Q ok k)
end
end Wt

namespace Wt
open PySem PySem.Spec PyProof.Rows L2
section
variable {K : PySem.W.Frag} {w : World} {l : Option Addr} {ρ : Ro} {m : Nat}
variable {Nx : Nat → Ro → Prop} {Rt : Nat → D → Prop} {Φ : Nat → D → Prop} {te : TE}
end
end Wt

namespace Wt
open PySem PySem.Spec PyProof.Rows L2
section
variable {K : PySem.W.Frag} {l : Option Addr} {ρ : Ro} {m : Nat}
variable {Nx : Nat → Ro → Prop} {Rt : Nat → D → Prop} {tl te : TE}
end
end Wt

namespace Wt
open PySem PySem.Spec PyProof.Rows L2
theorem mt_idxLD {X : Cx} (hu : X.A.units + 200 < cLine) : MtR X "list.index" (rIndexD X.K) := mt_indexD (by omega)
section
variable {K : PySem.W.Frag} {l : Option Addr} {ρ : Ro} {m : Nat}
variable {Φ : Nat → D → Prop} {tl te : TE}
theorem e_idxLD (h : EvC K l tl ρ m fun m1 x => ∃ ds, x = .lst ds ∧ Eqs (.lst ds) ∧ EvC K l te ρ m1 fun m2 d => Eqs d ∧
      ∃ (j : Nat) (z : D), ds[j]? = some z ∧ PyData.eqv z.py d.py = true ∧ (∀ c z', c < j → ds[c]? = some z' → PyData.eqv z'.py d.py = false) ∧ Φ m2 (.int (j : Nat))) :
    EvC K l (tBM K "list" (rIndexD K) tl (tCons te tNil)) ρ m Φ := by
  intro Z B H σ Q ok k
  refine h Z B H σ _ ok fun v x m1 B1 H1 o1 f1 i1 g1 => ?_
  obtain ⟨ds, rfl, hE, g1⟩ := g1
  have i1' := i1
  cases i1 with
  | @lst a us _ hu r =>
    refine ⟨.inl ⟨rfl, _, SqL.of (o1.sub _ _ hu)⟩, ?_⟩
    refine g1 Z B1 H1 σ _ o1 fun v2 d m2 B2 H2 o2 f2 i2 g2 => ?_
    obtain ⟨hd, j, z, hj, he, hno, q⟩ := g2
    have hp : (D.pys ds)[j]? = some z.py := by rw [pys_map, List.getElem?_map, hj]; rfl
    have hdp := (i1'.mono f2.sub).dp o2.sub hE.plain
    refine ⟨a, v2, d.py, D.pys ds, j, z.py, rfl, rfl, ?_, i2.dp o2.sub hd.plain, ?_, hd.shaped, hp, he, fun c z' hc hz => ?_, k _ _ m2 B2 H2 o2 (f1.trans f2) (.int _) q⟩
    · exact hdp
    · exact hE.shaped
    · rw [pys_map, List.getElem?_map, Option.map_eq_some_iff] at hz
      obtain ⟨y, hy, rfl⟩ := hz
      exact hno c y hc hy
end
end Wt

namespace Wt
open PySem PySem.Spec PyProof.Rows L2
section
variable {K : PySem.W.Frag} {l : Option Addr} {ρ : Ro} {m : Nat}
variable {Nx : Nat → Ro → Prop} {Rt : Nat → D → Prop} {te : TE} {tA : TA}
/-- x[-k] of an own list -/
theorem e_ixOwnN {Φ : Nat → D → Prop} {i : Nat} {ds : List D} (hi : ρ[i]? = some (some (.own ds)))
    (h : EvC K l te ρ m fun m1 x => ∃ k : Int, x = .int k ∧ k < 0 ∧ 0 ≤ (ds.length : Int) + k ∧ ∃ d, ds[((ds.length : Int) + k).toNat]? = some d ∧ Φ m1 d) :
    EvC K l (tOp (rIxL K) (tVar i) te) ρ m Φ := by
  intro Z B H σ Q ok k
  obtain ⟨v, e1, a, xs, rfl, q1, q2, q3, q4, q5⟩ := ok.sl i _ hi
  refine ⟨_, e1, ?_⟩
  refine h Z B H σ _ ok fun v2 d2 m2 B2 H2 o2 f2 i2 g2 => ?_
  obtain ⟨c, rfl, h0, h1, d, hd, q⟩ := g2
  cases i2
  obtain ⟨v', e1', a', xs', hv, w1, w2, w3, w4, w5⟩ := o2.sl i _ hi
  subst hv
  rw [e1] at e1'
  cases e1'
  obtain ⟨x, ex, z⟩ := w5.got hd
  refine ⟨a, xs', c, x, rfl, rfl, SqL.of w1, ?_, k _ _ m2 B2 H2 o2 f2 z q⟩
  unfold atI ixN
  have hl := w5.length
  rw [if_neg (by omega), if_pos (by omega), hl]
  rw [Int.add_comm] at ex
  exact ex
end
end Wt

namespace Wt
open PySem PySem.Spec PyProof.Rows L2
section
variable {P : Program} {w : World} {A : Around} {E : Value → Shared → Prop} {s : Shared}
end
section
variable {X : Cx}
end
section
variable {K : PySem.W.Frag} {l : Option Addr} {ρ : Ro} {m : Nat}
variable {Φ : Nat → D → Prop} {ta : TE}
end
section
variable {K : PySem.W.Frag} {l : Option Addr} {ρ : Ro} {m : Nat} {Φ : Nat → D → Prop}
end
end Wt

namespace Wt
open PySem PySem.Spec PyProof.Rows L2
section
variable {K : PySem.W.Frag}
/-- the key that data is -/
def KeyD (d : D) (k : Key) : Prop := (∃ n, d = .int n ∧ k = .inl n) ∨ ∃ x, d = .str x ∧ k = .inr x
theorem KeyD.is {B : Hp} {v : V} {d : D} {k : Key} (h : KeyD d k) (i : Is K B v d) : v = kV k := by
  rcases h with ⟨n, rfl, rfl⟩ | ⟨x, rfl, rfl⟩
  · cases i; rfl
  · cases i; rfl
end
section
variable {K : PySem.W.Frag} {l : Option Addr} {ρ : Ro} {m : Nat} {Φ : Nat → D → Prop} {td tk te : TE}
end
section
variable {K : PySem.W.Frag} {l : Option Addr} {ρ : Ro} {m : Nat} {Nx : Nat → Ro → Prop} {Rt : Nat → D → Prop} {t : TS}
end
structure Lk (B B' : Hp) (a : Addr) : Prop where
  ne : ∀ b, b ≠ a → B' b = B b
  at_ : ∃ es, Rd B a (.dK es) ∧ Rd B' a (.dK es)
section
variable {K : PySem.W.Frag} {B B' : Hp} {a : Addr}
theorem Lk.off (h : Lk B B' a) {b : Addr} {o : HO} (hb : B b = some o) (n1 : ∀ es, o ≠ .dK es) (n2 : ∀ x es, o ≠ .frz x (.dK es)) : B' b = some o := by
  rw [h.ne b fun z => ?_]
  · exact hb
  · subst z
    obtain ⟨es, h1 | ⟨x, h1⟩, _⟩ := h.at_
    · rw [h1] at hb; exact n1 es (Option.some.inj hb).symm
    · rw [h1] at hb; exact n2 x es (Option.some.inj hb).symm
theorem Lk.rd (h : Lk B B' a) {b : Addr} {es : List (Key × V)} (hb : Rd B b (.dK es)) : Rd B' b (.dK es) := by
  by_cases e : b = a
  · subst e
    obtain ⟨es', h1, h2⟩ := h.at_
    have : es' = es := by
      rcases h1 with h1 | ⟨x, h1⟩ <;> rcases hb with hb | ⟨y, hb⟩ <;> rw [h1] at hb <;> cases hb <;> rfl
    rw [← this]; exact h2
  · rcases hb with hb | ⟨y, hb⟩
    · exact .inl (by rw [h.ne b e]; exact hb)
    · exact .inr ⟨y, by rw [h.ne b e]; exact hb⟩
theorem Lk.sqT (h : Lk B B' a) {b : Addr} {xs : List V} (hb : SqT K B b xs) : SqT K B' b xs := by
  rcases hb with (hb | ⟨o, hb⟩) | hb
  · exact .inl (.inl (h.off hb (fun _ => nofun) fun _ _ => nofun))
  · exact .inl (.inr ⟨o, h.off hb (fun _ => nofun) fun _ _ => nofun⟩)
  · exact .inr hb
mutual
theorem Is.swap (h : Lk B B' a) : ∀ {v : V} {d : D}, Is K B v d → Is K B' v d
  | _, _, .non => .non
  | _, _, .bl b => .bl b
  | _, _, .int i => .int i
  | _, _, .str x => .str x
  | _, _, .lst e r => .lst (h.off e (fun _ => nofun) fun _ _ => nofun) (IsAll.swap h r)
  | _, _, .tup e r c => .tup (h.sqT e) (IsAll.swap h r) (by
      obtain ⟨o, xs, e, d⟩ := c
      exact ⟨o, xs, h.off e (fun _ => nofun) (fun _ _ => nofun), d⟩)
  | _, _, .dic e => .dic (h.rd e)
  | _, _, .ins e r => .ins (h.off e (fun _ => nofun) fun _ _ => nofun) (IsAll.swap h r)
  | _, _, .scr e => .scr (by
      rcases e with ⟨o, e⟩ | e
      · exact .inl ⟨o, h.off e (fun _ => nofun) fun _ _ => nofun⟩
      · exact .inr e)
  | _, _, .dct e n r => .dct (h.rd e) n (IsAll.swap h r)
theorem IsAll.swap (h : Lk B B' a) : ∀ {vs : List V} {ds : List D}, IsAll K B vs ds → IsAll K B' vs ds
  | _, _, .nil => .nil
  | _, _, .cons e r => .cons (Is.swap h e) (IsAll.swap h r)
end
/-- what an object's slot says stays while a dict is locked -/
def LkR (R : ObR) : Prop := ∀ B B' a b o, Lk B B' a → R B b o → R B' b o
def LkRo (ρ : Ro) : Prop := ∀ (i : Nat) R, ρ[i]? = some (some (.obj R)) → LkR R
theorem paired_swap (h : Lk B B' a) : ∀ {es : List (Key × V)} {kvs : List (Int × D)}, Paired (DkR K B) es kvs → Paired (DkR K B') es kvs
  | _, _, .nil => .nil
  | _, _, .cons e r => .cons ⟨e.1, e.2.swap h⟩ (paired_swap h r)
theorem DctR.lk {kvs : List (Int × D)} : LkR (DctR K kvs) := fun B B' a b o h ⟨es, e, p⟩ => ⟨es, e, paired_swap h p⟩
theorem Ok.swap {l : Option Addr} {Z : Addr → Prop} {m : Nat} {H H' : Hp} {σ : L2.St} {ρ : Ro} (ok : Ok K l Z m B H σ ρ) (h : Lk B B' a) (hn : ∀ b, b ≠ a → H' b = H b) (ha : H' a = B' a) (lr : LkRo ρ) :
    Ok K l Z m B' H' σ ρ := by
  have hB : B a ≠ none := by
    obtain ⟨es, h1 | ⟨x, h1⟩, _⟩ := h.at_ <;> rw [h1] <;> exact nofun
  have nn : ∀ b, B b = none → b ≠ a := fun b e z => hB (z ▸ e)
  refine ⟨⟨fun b o e => ?_, fun b e => ?_, fun z hz => ?_⟩, ok.len, fun i s e => ?_, ok.dis⟩
  · by_cases q : b = a
    · subst q; rw [ha]; exact e
    · rw [hn b q]; rw [h.ne b q] at e; exact ok.sub b o e
  · obtain ⟨⟨g, s, c, q1, q2⟩, q3⟩ := ok.hand b e
    have := nn b q3
    exact ⟨⟨g, s, c, by rw [hn b this]; exact q1, q2⟩, by rw [h.ne b this]; exact q3⟩
  · obtain ⟨w1, w2, w3⟩ := ok.zs z hz
    have := nn z w2
    exact ⟨by rw [hn z this]; exact w1, by rw [h.ne z this]; exact w2, w3⟩
  · obtain ⟨v, e2, q⟩ := ok.sl i s e
    refine ⟨v, e2, ?_⟩
    cases s with
    | dat d => exact Is.swap h q
    | hand => exact q
    | own fs =>
      obtain ⟨b, zs, rfl, p1, p2, p3, p4, p5⟩ := q
      have := nn b p2
      exact ⟨b, zs, rfl, by rw [hn b this]; exact p1, by rw [h.ne b this]; exact p2, p3, p4, p5.swap h⟩
    | obj R =>
      obtain ⟨b, zs, rfl, p1, p2, p3, p4, p5, p6⟩ := q
      have := nn b p2
      exact ⟨b, zs, rfl, by rw [hn b this]; exact p1, by rw [h.ne b this]; exact p2, p3, p4, lr i R e _ _ _ _ _ h p5, p6⟩
end
section
variable {K : PySem.W.Frag} {l : Option Addr} {ρ : Ro} {m : Nat} {Nx : Nat → Ro → Prop} {Rt : Nat → D → Prop} {Φ : Nat → D → Prop} {tb : TS} {tt : TT} {te : TE}
end
end Wt

namespace Wt
open PySem PySem.Spec PyProof.Rows L2
/-- an entry: the key, where it stands, its value -/
abbrev EntV := NestedKey × Addr × Value
def RawC (w : World) (h : Heap) (a : Addr) (L : List EntV) : Prop :=
  (a == sysModules) = false ∧ ∃ es ep, h.DictRaw a es ep ∧ es.toList = L.map fun e => (⟨NestedKey.hash w e.1, .ref e.2.1, e.2.2⟩ : DictEntry)
def DcO (w : World) (a : Addr) (L : List EntV) : HO := .ext fun h => RawC w h a L
section
variable {P : Program} {w : World}
end
structure CnE (K : PySem.W.Frag) (B : Hp) (e : EntV) (q : List D × Int) : Prop where
  key : e.1 = (D.tup q.1).nk
  kd : D.keyeds q.1 = true
  dp : (D.tup q.1).nk.depth ≤ 8
  ki : Is K B (.ref e.2.1) (.tup q.1)
  vi : ∃ t, e.2.2 = .int q.2 t
section
variable {K : PySem.W.Frag} {B : Hp}
theorem CnE.mono {B2 : Hp} {e : EntV} {q : List D × Int} (h : CnE K B e q) (s : Same B B2) : CnE K B2 e q := ⟨h.key, h.kd, h.dp, h.ki.mono s, h.vi⟩
def CnR (w : World) (K : PySem.W.Frag) (kvs : List (List D × Int)) : ObR := fun B a o => ∃ L, o = DcO w a L ∧ Paired (CnE K B) L kvs
theorem CnR.mono {w : World} {kvs : List (List D × Int)} : (CnR w K kvs).Mono := fun B1 B2 a o s ⟨L, e, p⟩ => ⟨L, e, L2.Paired.mapP p fun x y z => z.mono s⟩
theorem CnR.lk {w : World} {kvs : List (List D × Int)} : LkR (CnR w K kvs) := fun B B' a b o h ⟨L, e, p⟩ => ⟨L, e, L2.Paired.mapP p fun x y z => ⟨z.key, z.kd, z.dp, z.ki.swap h, z.vi⟩⟩
end
section
variable {X : Cx} {o e f i value : Expr} {apos cpos pos pos' : Pos} {td ty tx tv : TE}
end
section
variable {K : PySem.W.Frag} {w : World} {l : Option Addr} {ρ : Ro} {m : Nat}
variable {Nx : Nat → Ro → Prop} {Rt : Nat → D → Prop} {Φ : Nat → D → Prop} {tk tx tv : TE}
end
end Wt

namespace Wt
open PySem PySem.Spec PyProof.Rows L2
section
variable {K : PySem.W.Frag} {w : World} {l : Option Addr} {ρ : Ro} {m : Nat}
variable {Nx : Nat → Ro → Prop} {Rt : Nat → D → Prop} {te : TE}
end
end Wt

open PySem PySem.Spec PyProof.Rows L2 Wt
namespace Wt
section
variable {K : PySem.W.Frag} {l : Option Addr} {ρ : Ro} {m : Nat} {te : TE} {Nx : Nat → Ro → Prop} {Rt : Nat → D → Prop}
end
end Wt

namespace Wt
open PySem PySem.Spec PyProof.Rows L2
section
variable {K : PySem.W.Frag} {W0 : WX} {l : Option Addr} {ρ : Ro} {m : Nat}
variable {Nx : Nat → Ro → Prop} {Rt : Nat → D → Prop} {Φ : Nat → D → Prop} {te : TE} {tt : TT}
end
end Wt

namespace Wt
open PySem PySem.Spec PyProof.Rows L2
section
variable {K : PySem.W.Frag} {l : Option Addr} {ρ : Ro} {m : Nat}
variable {Nx : Nat → Ro → Prop} {Rt : Nat → D → Prop} {te : TE} {tA : TA}
theorem s_parOwnLT {i j : Nat} (h : AvC K l tA ρ m fun m1 ds => ds.length ≤ 100000 ∧ EvC K l te ρ m1 fun m2 y => Nx m2 ((ρ.set i (some (.own ds))).set j (some (.dat y)))) :
    SvC K l (tPar i j (tCons (tLst tA) (tCons te tNil))) ρ m Nx Rt := by
  intro Z B H σ W ok kk _
  refine h Z B H σ _ ok fun vs ds m1 B1 H1 o1 f1 i1 g1 => ?_
  obtain ⟨hl, g1⟩ := g1
  refine ⟨by rw [i1.length, sizeLine_eq]; omega, fun p hp => ?_⟩
  have hz : ¬ Z p := fun z => (o1.zs p z).1 hp
  have oA := o1.aside (o := .lst vs) hp
  refine g1 _ B1 _ σ _ oA fun v y m2 B2 H2 o2 f2 i2 g2 => ?_
  have hp2 : H2 p = some (.lst vs) := by rw [f2.kept p (.inr rfl), upd_same]
  have o3 := (o2.setOwn (i := i) hz hp2 (i1.mono f2.sub)).set (i := j) i2
  refine ⟨_, _, rfl, kk _ _ m2 B2 _ o3 (f1.trans ⟨f2.sub, fun z hz' => ?_⟩) g2⟩
  have hzp : z ≠ p := fun e => hz (e ▸ hz')
  exact (f2.kept z (.inl hz')).trans (upd_ne hzp)
end
end Wt

namespace Wt
open PySem PySem.Spec PyProof.Rows L2
section
variable {K : PySem.W.Frag} {l : Option Addr} {ρ : Ro} {m : Nat}
variable {Nx : Nat → Ro → Prop} {Rt : Nat → D → Prop} {te t1 t2 : TE} {tA : TA} {Φ : Nat → D → Prop} {Θ : Nat → Bool → Prop}
theorem v_sumL {ns : List Int} (q : Φ m (.int ns.sum)) : VvC K l ρ (rSum K) [.lst (ns.map D.int)] m Φ := by
  intro Z B H σ vs Q ok is k
  obtain ⟨v, rfl, h⟩ := isAll1 is
  cases h with
  | @lst a us _ hu r =>
    cases ints_of r
    exact ⟨a, ns, rfl, SqL.of (ok.sub _ _ hu), k _ _ m B H ok Fr.refl (.int _) q⟩
end
end Wt

namespace Wt
open PySem PySem.Spec PyProof.Rows L2
def LsR (bs : List Addr) : ObR := fun _ _ o => o = .lst (bs.map V.ref)
theorem LsR.mono {bs : List Addr} : (LsR bs).Mono := fun _ _ _ _ _ h => h
structure RowsE (K : PySem.W.Frag) (B H : Hp) (bs : List Addr) (rows : List (List D)) : Prop where
  len : bs.length = rows.length
  at_ : ∀ (c : Nat) b ds, bs[c]? = some b → rows[c]? = some ds → ∃ vs, H b = some (.lst vs) ∧ IsAll K B vs ds
theorem RowsE.more {K : PySem.W.Frag} {B H B2 H2 : Hp} {bs : List Addr} {rows : List (List D)} (h : RowsE K B H bs rows) (s : Same B B2) (k : ∀ z ∈ bs, H2 z = H z) : RowsE K B2 H2 bs rows :=
  ⟨h.len, fun c b ds e1 e2 => by
    obtain ⟨vs, e3, i⟩ := h.at_ c b ds e1 e2
    exact ⟨vs, by rw [k b (List.mem_of_getElem? e1)]; exact e3, i.mono s⟩⟩
section
variable {K : PySem.W.Frag} {l : Option Addr} {i : Nat} {bs : List Addr} {ts tu tb : TS} {ρ : Ro} {m : Nat} {rows : List (List D)} {Nx Nx' : Nat → Ro → List (List D) → Prop}
variable {tl te tk t1 t2 : TE} {tA : TA}
variable {Ny : Nat → Ro → Prop} {Rt : Nat → D → Prop} {rest : TS}
end
end Wt

namespace Wt
open PySem PySem.Spec PyProof.Rows L2
section
variable {K : PySem.W.Frag} {l : Option Addr} {ρ : Ro} {m : Nat}
variable {Nx : Nat → Ro → Prop} {Rt : Nat → D → Prop} {Φ : Nat → D → Prop} {ta te t1 t2 : TE} {tt : TT} {tA : TA} {tb : TS}
end
end Wt

namespace Wt
open PySem PySem.Spec PyProof.Rows L2
section
variable {K : PySem.W.Frag} {l : Option Addr} {ρ : Ro} {m : Nat} {Φ : Nat → D → Prop}
end
end Wt

namespace Wt
open PySem PySem.Spec PyProof.Rows L2
section
variable {K : PySem.W.Frag} {l : Option Addr} {ρ : Ro} {m : Nat}
variable {Nx : Nat → Ro → Prop} {Rt : Nat → D → Prop} {Φ : Nat → D → Prop} {ta te t1 t2 : TE} {tt : TT} {tA : TA} {tb : TS}
end
end Wt

namespace Wt
open PySem PySem.Spec PyProof.Rows L2
section
variable {K : PySem.W.Frag} {w : World} {l : Option Addr} {ρ : Ro} {m : Nat}
variable {Nx : Nat → Ro → Prop} {Rt : Nat → D → Prop} {te : TE}
end
end Wt

namespace Wt
open PySem PySem.Spec PyProof.Rows L2
section
variable {K : PySem.W.Frag} {l : Option Addr} {ρ : Ro} {m : Nat}
variable {Φ : Nat → D → Prop} {te tl : TE} {tt : TT}
end
end Wt
local macro_rules | `(tactic| walk_at "ro") => `(tactic| (try dsimp only [Wt.put, Wt.r_set0, Wt.r_set1, Wt.r_map0, Wt.r_map1, Wt.r_app0, Wt.r_app1]))
local macro_rules | `(tactic| walk_at "ev1") => `(tactic| first
  | with_reducible refine Wt.s_seq ?_ | with_reducible refine Wt.s_ret ?_
  | ((with_reducible refine Wt.s_par ?_); (walk_at "ro")) | ((with_reducible refine Wt.s_repOwn ?_); (walk_at "ro")) | ((with_reducible refine Wt.s_asg ?_); (walk_at "ro"))
  | with_reducible refine Wt.s_if ?_ | with_reducible refine Wt.s_next ?_
  | with_reducible refine Wt.t_or ?_ | with_reducible refine Wt.t_and ?_
  | with_reducible refine Wt.t_not ?_ | with_reducible refine Wt.t_test ?_
  | with_reducible refine Wt.t_B ?_ | with_reducible refine Wt.e_andV ?_
  | with_reducible refine Wt.e_orV ?_ | with_reducible refine Wt.e_notV ?_
  | with_reducible refine Wt.e_if ?_ | with_reducible refine Wt.e_chain ?_
  | ((with_reducible refine Wt.e_hand0 (by with_unfolding_all rfl) ?_); (intro _ _ _))
  | ((with_reducible refine Wt.e_hand1 (by with_unfolding_all rfl) ?_); (intro _ _ _))
  | ((with_reducible refine Wt.e_hand2 (by with_unfolding_all rfl) ?_); (intro _ _ _))
  | with_reducible refine Wt.e_op ?_ | with_reducible refine Wt.e_un ?_
  | with_reducible refine Wt.e_isi Wt.kit_int ?_
  | with_reducible refine Wt.e_isi Wt.kit_bool ?_
  | with_reducible refine Wt.e_isi Wt.kit_tup ?_
  | with_reducible refine Wt.e_cb ?_ | with_reducible refine Wt.e_tup ?_
  | with_reducible refine Wt.e_lst ?_ | with_reducible refine Wt.a_cons ?_
  | with_reducible refine Wt.a_nil ?_ | with_reducible refine Wt.e_int ?_
  | with_reducible refine Wt.e_bl ?_ | with_reducible refine Wt.e_non ?_
  | with_reducible refine Wt.e_str ?_
  | with_reducible refine Wt.e_var (by with_unfolding_all rfl) ?_
  | with_reducible refine Wt.e_dic0 ?_ | with_reducible refine Wt.e_dic1 ?_
  | with_reducible refine Wt.e_callP ?_ | with_reducible refine Wt.e_callR ?_
  | with_reducible refine Wt.e_callH (by with_unfolding_all rfl) ?_
  | with_reducible refine Wt.e_revT ?_ | with_reducible refine Wt.e_tupRg ?_
  | with_reducible refine Wt.e_lstRg ?_ | with_reducible refine Wt.e_slL ?_
  | with_reducible refine Wt.e_make ?_
  | with_reducible refine Wt.e_fld1 (by assumption) ?_
  | with_reducible refine Wt.e_fld2 (by assumption) (by decide) ?_
  | ((with_reducible refine Wt.s_par3 ?_); (walk_at "ro"))
  | with_reducible refine Wt.e_slT ?_ | with_reducible refine Wt.o_none ?_
  | with_reducible refine Wt.o_some ?_
  | with_reducible refine Wt.v_I0 ?_ | with_reducible refine Wt.v_B0 ?_
  | ((with_reducible refine Wt.v_I ?hc ?_); (case hc => first | decide | exact ⟨by decide, by decide, by decide⟩ | exact ⟨by decide, by decide⟩ | exact .inl ⟨by decide, by decide⟩ | exact .inr ⟨by decide, by decide⟩ | assumption))
  | with_reducible refine Wt.v_lenT ?_ | with_reducible refine Wt.v_lenL ?_
  | with_reducible refine Wt.v_neSame ?_ | with_reducible refine Wt.v_eqSame ?_
  | with_reducible refine Wt.v_repr (by assumption) ?_
  | with_reducible refine Wt.v_isNn ?_
  | with_reducible refine Wt.v_lenS ?_ | with_reducible refine Wt.v_eqS ?_
  | with_reducible refine Wt.v_neS ?_ | with_reducible refine Wt.v_abs ?_
  | with_reducible refine Wt.v_intB ?_ | with_reducible refine Wt.v_max2 ?_
  | with_reducible refine Wt.v_min2 ?_ | with_reducible refine Wt.v_listT ?_
  | with_reducible refine Wt.v_tupL ?_ | with_reducible refine Wt.v_neg ?_
  | with_reducible refine Wt.v_ixT (by decide) (by with_unfolding_all rfl) ?_
  | with_reducible refine Wt.v_ixL (by decide) (by with_unfolding_all rfl) ?_
  | with_reducible refine Wt.v_ixN (by assumption) ?_
  | with_reducible refine Wt.v_ixNL (by assumption) ?_
  | with_reducible refine Wt.v_eqDi ?_ | with_reducible refine Wt.v_neDi ?_
  | with_reducible refine Wt.v_eqI ?_ | with_reducible refine Wt.v_neI ?_
  | (rw [if_neg Bool.false_ne_true]) | (rw [if_pos (rfl : true = true)])
  | (rw [Bool.not_true]) | (rw [Bool.not_false])
  | with_reducible refine ⟨_, rfl, ?_⟩
  | with_reducible refine ⟨_, _, rfl, rfl, ?_⟩
  | with_reducible refine ⟨_, _, rfl, ?_⟩
  | ((with_reducible refine And.intro ?hz ?_); (case hz => first | rfl | (simp; done)))
  | ((refine Wt.s_unp2 ?_); (walk_at "ro")) | refine Wt.e_methO (by assumption) (by decide) (by decide) ?_)
local macro_rules | `(tactic| walk_at "ev") => `(tactic| (repeat walk_at "ev1"))
local macro_rules | `(tactic| walk_at "body") => `(tactic| (dsimp only [L2.cxOf, L2.Cx.nox, L2.Cx.blk, List.length_cons, List.length_nil, Wt.datR, Wt.r_map0, Wt.r_map1, Nat.reduceAdd, Nat.reduceSub, Nat.zero_add, Wt.r_rep0, Wt.r_rep1, List.replicate, Wt.r_app0, Wt.r_app1]))
namespace Wl
open PySem PySem.Spec PyProof.Rows L2 Wt
def topS (i : Nat) : Stmt := PySem.Challenge.pw_wholeturn_k80_whole_all_turnings_of_smal.main.body.getD i (.Pass ⟨0, 0, 0, 0⟩)
def inS (i j : Nat) : Stmt := match topS i with
  | .ClassDef _ _ _ b _ _ _ _ _ _ _ => b.getD j (.Pass ⟨0, 0, 0, 0⟩)
  | _ => .Pass ⟨0, 0, 0, 0⟩
abbrev s_is_whole : Stmt := topS 1
theorem sc_is_whole : FnScope ["thing"] ["thing"] (defScope s_is_whole) :=
  ⟨rfl, rfl, rfl, by decide +kernel, rfl, by decide +kernel, by decide +kernel⟩
theorem bi_is_whole {K : PySem.W.Frag} {f : Addr} {fd : FuncData}
    (F : Fun K "is_whole" "is_whole" s_is_whole f fd) : Binds K fd ["thing"] [] :=
  F.binds fun _ _ _ _ _ _ us hl => match us, hl with | [_], _ => rfl
abbrev s_is_within : Stmt := topS 2
theorem sc_is_within : FnScope ["thing", "least", "most"] ["thing", "least", "most"] (defScope s_is_within) :=
  ⟨rfl, rfl, rfl, by decide +kernel, rfl, by decide +kernel, by decide +kernel⟩
theorem bi_is_within {K : PySem.W.Frag} {f : Addr} {fd : FuncData}
    (F : Fun K "is_within" "is_within" s_is_within f fd) : Binds K fd ["thing", "least", "most"] [] :=
  F.binds fun _ _ _ _ _ _ us hl => match us, hl with | [_, _, _], _ => rfl
abbrev s_product : Stmt := topS 3
theorem sc_product : FnScope ["numbers", "result", "number"] ["numbers"] (defScope s_product) :=
  ⟨rfl, rfl, rfl, by decide +kernel, rfl, by decide +kernel, by decide +kernel⟩
theorem bi_product {K : PySem.W.Frag} {f : Addr} {fd : FuncData}
    (F : Fun K "product" "product" s_product f fd) : Binds K fd ["numbers"] [] :=
  F.binds fun _ _ _ _ _ _ us hl => match us, hl with | [_], _ => rfl
abbrev s_like_counts : Stmt := topS 4
theorem sc_like_counts : FnScope ["marks", "at", "mark"] ["marks"] (defScope s_like_counts) :=
  ⟨rfl, rfl, rfl, by decide +kernel, rfl, by decide +kernel, by decide +kernel⟩
theorem bi_like_counts {K : PySem.W.Frag} {f : Addr} {fd : FuncData}
    (F : Fun K "like_counts" "like_counts" s_like_counts f fd) : Binds K fd ["marks"] [] :=
  F.binds fun _ _ _ _ _ _ us hl => match us, hl with | [_], _ => rfl
abbrev s_common_divisor : Stmt := topS 5
theorem sc_common_divisor : FnScope ["one", "other", "greater", "lesser"] ["one", "other"] (defScope s_common_divisor) :=
  ⟨rfl, rfl, rfl, by decide +kernel, rfl, by decide +kernel, by decide +kernel⟩
theorem bi_common_divisor {K : PySem.W.Frag} {f : Addr} {fd : FuncData}
    (F : Fun K "common_divisor" "common_divisor" s_common_divisor f fd) : Binds K fd ["one", "other"] [] :=
  F.binds fun _ _ _ _ _ _ us hl => match us, hl with | [_, _], _ => rfl
abbrev s_common_multiple : Stmt := topS 6
theorem sc_common_multiple : FnScope ["numbers", "multiple", "number"] ["numbers"] (defScope s_common_multiple) :=
  ⟨rfl, rfl, rfl, by decide +kernel, rfl, by decide +kernel, by decide +kernel⟩
theorem bi_common_multiple {K : PySem.W.Frag} {f : Addr} {fd : FuncData}
    (F : Fun K "common_multiple" "common_multiple" s_common_multiple f fd) : Binds K fd ["numbers"] [] :=
  F.binds fun _ _ _ _ _ _ us hl => match us, hl with | [_], _ => rfl
abbrev s_is_measure : Stmt := topS 12
theorem sc_is_measure : FnScope ["thing", "number"] ["thing"] (defScope s_is_measure) :=
  ⟨rfl, rfl, rfl, by decide +kernel, rfl, by decide +kernel, by decide +kernel⟩
theorem bi_is_measure {K : PySem.W.Frag} {f : Addr} {fd : FuncData}
    (F : Fun K "is_measure" "is_measure" s_is_measure f fd) : Binds K fd ["thing"] [] :=
  F.binds fun _ _ _ _ _ _ us hl => match us, hl with | [_], _ => rfl
abbrev s_tie_count : Stmt := topS 13
theorem sc_tie_count : FnScope ["measure"] ["measure"] (defScope s_tie_count) :=
  ⟨rfl, rfl, rfl, by decide +kernel, rfl, by decide +kernel, by decide +kernel⟩
theorem bi_tie_count {K : PySem.W.Frag} {f : Addr} {fd : FuncData}
    (F : Fun K "tie_count" "tie_count" s_tie_count f fd) : Binds K fd ["measure"] [] :=
  F.binds fun _ _ _ _ _ _ us hl => match us, hl with | [_], _ => rfl
abbrev s_nought : Stmt := topS 14
theorem sc_nought : FnScope ["measure"] ["measure"] (defScope s_nought) :=
  ⟨rfl, rfl, rfl, by decide +kernel, rfl, by decide +kernel, by decide +kernel⟩
theorem bi_nought {K : PySem.W.Frag} {f : Addr} {fd : FuncData}
    (F : Fun K "nought" "nought" s_nought f fd) : Binds K fd ["measure"] [] :=
  F.binds fun _ _ _ _ _ _ us hl => match us, hl with | [_], _ => rfl
abbrev s_tie_sum : Stmt := topS 15
theorem sc_tie_sum : FnScope ["measure", "one", "other", "left", "right", "limit"] ["measure", "one", "other"] (defScope s_tie_sum) :=
  ⟨rfl, rfl, rfl, by decide +kernel, rfl, by decide +kernel, by decide +kernel⟩
theorem bi_tie_sum {K : PySem.W.Frag} {f : Addr} {fd : FuncData}
    (F : Fun K "tie_sum" "tie_sum" s_tie_sum f fd) : Binds K fd ["measure", "one", "other"] [] :=
  F.binds fun _ _ _ _ _ _ us hl => match us, hl with | [_, _, _], _ => rfl
abbrev s_tie_times : Stmt := topS 16
theorem sc_tie_times : FnScope ["measure", "tie", "times", "number", "limit"] ["measure", "tie", "times"] (defScope s_tie_times) :=
  ⟨rfl, rfl, rfl, by decide +kernel, rfl, by decide +kernel, by decide +kernel⟩
theorem bi_tie_times {K : PySem.W.Frag} {f : Addr} {fd : FuncData}
    (F : Fun K "tie_times" "tie_times" s_tie_times f fd) : Binds K fd ["measure", "tie", "times"] [] :=
  F.binds fun _ _ _ _ _ _ us hl => match us, hl with | [_, _, _], _ => rfl
abbrev s_tie_order : Stmt := topS 17
theorem sc_tie_order : FnScope ["measure", "tie", "times"] ["measure", "tie"] (defScope s_tie_order) :=
  ⟨rfl, rfl, rfl, by decide +kernel, rfl, by decide +kernel, by decide +kernel⟩
theorem bi_tie_order {K : PySem.W.Frag} {f : Addr} {fd : FuncData}
    (F : Fun K "tie_order" "tie_order" s_tie_order f fd) : Binds K fd ["measure", "tie"] [] :=
  F.binds fun _ _ _ _ _ _ us hl => match us, hl with | [_, _], _ => rfl
abbrev s_even_table : Stmt := topS 19
theorem sc_even_table : FnScope ["frame", "stem"] ["frame"] (defScope s_even_table) :=
  ⟨rfl, rfl, rfl, by decide +kernel, rfl, by decide +kernel, by decide +kernel⟩
theorem bi_even_table {K : PySem.W.Frag} {f : Addr} {fd : FuncData}
    (F : Fun K "even_table" "even_table" s_even_table f fd) : Binds K fd ["frame"] [] :=
  F.binds fun _ _ _ _ _ _ us hl => match us, hl with | [_], _ => rfl
abbrev s_table_tie : Stmt := topS 20
theorem sc_table_tie : FnScope ["table", "one", "other"] ["table", "one", "other"] (defScope s_table_tie) :=
  ⟨rfl, rfl, rfl, by decide +kernel, rfl, by decide +kernel, by decide +kernel⟩
theorem bi_table_tie {K : PySem.W.Frag} {f : Addr} {fd : FuncData}
    (F : Fun K "table_tie" "table_tie" s_table_tie f fd) : Binds K fd ["table", "one", "other"] [] :=
  F.binds fun _ _ _ _ _ _ us hl => match us, hl with | [_, _, _], _ => rfl
abbrev s_still_turning : Stmt := topS 22
theorem sc_still_turning : FnScope ["frame"] ["frame"] (defScope s_still_turning) :=
  ⟨rfl, rfl, rfl, by decide +kernel, rfl, by decide +kernel, by decide +kernel⟩
theorem bi_still_turning {K : PySem.W.Frag} {f : Addr} {fd : FuncData}
    (F : Fun K "still_turning" "still_turning" s_still_turning f fd) : Binds K fd ["frame"] [] :=
  F.binds fun _ _ _ _ _ _ us hl => match us, hl with | [_], _ => rfl
abbrev s_lead_place : Stmt := topS 23
theorem sc_lead_place : FnScope ["frame", "turning", "place", "others", "leads", "moves", "stem", "says", "other", "tie"] ["frame", "turning", "place"] (defScope s_lead_place) :=
  ⟨rfl, rfl, rfl, by decide +kernel, rfl, by decide +kernel, by decide +kernel⟩
theorem bi_lead_place {K : PySem.W.Frag} {f : Addr} {fd : FuncData}
    (F : Fun K "lead_place" "lead_place" s_lead_place f fd) : Binds K fd ["frame", "turning", "place"] [] :=
  F.binds fun _ _ _ _ _ _ us hl => match us, hl with | [_, _, _], _ => rfl
abbrev s_put_behind : Stmt := topS 24
theorem sc_put_behind : FnScope ["frame", "first", "second", "leads", "moves", "led", "stem"] ["frame", "first", "second"] (defScope s_put_behind) :=
  ⟨rfl, rfl, rfl, by decide +kernel, rfl, by decide +kernel, by decide +kernel⟩
theorem bi_put_behind {K : PySem.W.Frag} {f : Addr} {fd : FuncData}
    (F : Fun K "put_behind" "put_behind" s_put_behind f fd) : Binds K fd ["frame", "first", "second"] [] :=
  F.binds fun _ _ _ _ _ _ us hl => match us, hl with | [_, _, _], _ => rfl
abbrev s_moves_behind : Stmt := topS 25
theorem sc_moves_behind : FnScope ["frame", "first", "second", "stem", "leads", "moves", "lesser"] ["frame", "first", "second", "stem"] (defScope s_moves_behind) :=
  ⟨rfl, rfl, rfl, by decide +kernel, rfl, by decide +kernel, by decide +kernel⟩
theorem bi_moves_behind {K : PySem.W.Frag} {f : Addr} {fd : FuncData}
    (F : Fun K "moves_behind" "moves_behind" s_moves_behind f fd) : Binds K fd ["frame", "first", "second", "stem"] [] :=
  F.binds fun _ _ _ _ _ _ us hl => match us, hl with | [_, _, _, _], _ => rfl
abbrev s_turning_count : Stmt := topS 26
theorem sc_turning_count : FnScope ["frame", "stems", "orders", "pairs"] ["frame"] (defScope s_turning_count) :=
  ⟨rfl, rfl, rfl, by decide +kernel, rfl, by decide +kernel, by decide +kernel⟩
theorem bi_turning_count {K : PySem.W.Frag} {f : Addr} {fd : FuncData}
    (F : Fun K "turning_count" "turning_count" s_turning_count f fd) : Binds K fd ["frame"] [] :=
  F.binds fun _ _ _ _ _ _ us hl => match us, hl with | [_], _ => rfl
abbrev s_turn_times : Stmt := topS 28
theorem sc_turn_times : FnScope ["frame", "turning", "times"] ["frame", "turning", "times"] (defScope s_turn_times) :=
  ⟨rfl, rfl, rfl, by decide +kernel, rfl, by decide +kernel, by decide +kernel⟩
theorem bi_turn_times {K : PySem.W.Frag} {f : Addr} {fd : FuncData}
    (F : Fun K "turn_times" "turn_times" s_turn_times f fd) : Binds K fd ["frame", "turning", "times"] [] :=
  F.binds fun _ _ _ _ _ _ us hl => match us, hl with | [_, _, _], _ => rfl
abbrev s_doubled_times : Stmt := topS 29
theorem sc_doubled_times : FnScope ["frame", "turning", "times", "done", "doubled", "left"] ["frame", "turning", "times"] (defScope s_doubled_times) :=
  ⟨rfl, rfl, rfl, by decide +kernel, rfl, by decide +kernel, by decide +kernel⟩
theorem bi_doubled_times {K : PySem.W.Frag} {f : Addr} {fd : FuncData}
    (F : Fun K "doubled_times" "doubled_times" s_doubled_times f fd) : Binds K fd ["frame", "turning", "times"] [] :=
  F.binds fun _ _ _ _ _ _ us hl => match us, hl with | [_, _, _], _ => rfl
abbrev s_turning_order : Stmt := topS 30
theorem sc_turning_order : FnScope ["frame", "turning", "turns", "leads", "moves", "stem", "row", "tie"] ["frame", "turning"] (defScope s_turning_order) :=
  ⟨rfl, rfl, rfl, by decide +kernel, rfl, by decide +kernel, by decide +kernel⟩
theorem bi_turning_order {K : PySem.W.Frag} {f : Addr} {fd : FuncData}
    (F : Fun K "turning_order" "turning_order" s_turning_order f fd) : Binds K fd ["frame", "turning"] [] :=
  F.binds fun _ _ _ _ _ _ us hl => match us, hl with | [_, _], _ => rfl
abbrev s_stem_ring : Stmt := topS 31
theorem sc_stem_ring : FnScope ["leads", "stem", "ring"] ["leads", "stem"] (defScope s_stem_ring) :=
  ⟨rfl, rfl, rfl, by decide +kernel, rfl, by decide +kernel, by decide +kernel⟩
theorem bi_stem_ring {K : PySem.W.Frag} {f : Addr} {fd : FuncData}
    (F : Fun K "stem_ring" "stem_ring" s_stem_ring f fd) : Binds K fd ["leads", "stem"] [] :=
  F.binds fun _ _ _ _ _ _ us hl => match us, hl with | [_, _], _ => rfl
abbrev s_times_to : Stmt := topS 32
theorem sc_times_to : FnScope ["frame", "turning", "one", "other", "here", "times"] ["frame", "turning", "one", "other"] (defScope s_times_to) :=
  ⟨rfl, rfl, rfl, by decide +kernel, rfl, by decide +kernel, by decide +kernel⟩
theorem bi_times_to {K : PySem.W.Frag} {f : Addr} {fd : FuncData}
    (F : Fun K "times_to" "times_to" s_times_to f fd) : Binds K fd ["frame", "turning", "one", "other"] [] :=
  F.binds fun _ _ _ _ _ _ us hl => match us, hl with | [_, _, _, _], _ => rfl
abbrev s_Frame_init : Stmt := inS 40 0
theorem sc_Frame_init : FnScope ["self", "measure", "hues"] ["self", "measure", "hues"] (defScope s_Frame_init) :=
  ⟨rfl, rfl, rfl, by decide +kernel, rfl, by decide +kernel, by decide +kernel⟩
theorem bi_Frame_init {K : PySem.W.Frag} {f : Addr} {fd : FuncData}
    (F : Fun K "__init__" "Frame.__init__" s_Frame_init f fd) : Binds K fd ["self", "measure", "hues"] [] :=
  F.binds fun _ _ _ _ _ _ us hl => match us, hl with | [_, _, _], _ => rfl
abbrev s_Frame_stem_count : Stmt := inS 40 2
theorem sc_Frame_stem_count : FnScope ["self"] ["self"] (defScope s_Frame_stem_count) :=
  ⟨rfl, rfl, rfl, by decide +kernel, rfl, by decide +kernel, by decide +kernel⟩
theorem bi_Frame_stem_count {K : PySem.W.Frag} {f : Addr} {fd : FuncData}
    (F : Fun K "stem_count" "Frame.stem_count" s_Frame_stem_count f fd) : Binds K fd ["self"] [] :=
  F.binds fun _ _ _ _ _ _ us hl => match us, hl with | [_], _ => rfl
abbrev s_are_hues : Stmt := topS 41
theorem sc_are_hues : FnScope ["thing", "hue"] ["thing"] (defScope s_are_hues) :=
  ⟨rfl, rfl, rfl, by decide +kernel, rfl, by decide +kernel, by decide +kernel⟩
theorem bi_are_hues {K : PySem.W.Frag} {f : Addr} {fd : FuncData}
    (F : Fun K "are_hues" "are_hues" s_are_hues f fd) : Binds K fd ["thing"] [] :=
  F.binds fun _ _ _ _ _ _ us hl => match us, hl with | [_], _ => rfl
abbrev s_is_hue : Stmt := topS 42
theorem sc_is_hue : FnScope ["thing"] ["thing"] (defScope s_is_hue) :=
  ⟨rfl, rfl, rfl, by decide +kernel, rfl, by decide +kernel, by decide +kernel⟩
theorem bi_is_hue {K : PySem.W.Frag} {f : Addr} {fd : FuncData}
    (F : Fun K "is_hue" "is_hue" s_is_hue f fd) : Binds K fd ["thing"] [] :=
  F.binds fun _ _ _ _ _ _ us hl => match us, hl with | [_], _ => rfl
abbrev s_stays : Stmt := topS 44
theorem sc_stays : FnScope ["frame", "turning", "times", "done", "stem", "led"] ["frame", "turning", "times"] (defScope s_stays) :=
  ⟨rfl, rfl, rfl, by decide +kernel, rfl, by decide +kernel, by decide +kernel⟩
abbrev s_stem_stays : Stmt := topS 45
theorem sc_stem_stays : FnScope ["frame", "turning", "stem", "choices", "other", "leads", "moves", "ring"] ["frame", "turning", "stem"] (defScope s_stem_stays) :=
  ⟨rfl, rfl, rfl, by decide +kernel, rfl, by decide +kernel, by decide +kernel⟩
theorem bi_stem_stays {K : PySem.W.Frag} {f : Addr} {fd : FuncData}
    (F : Fun K "stem_stays" "stem_stays" s_stem_stays f fd) : Binds K fd ["frame", "turning", "stem"] [] :=
  F.binds fun _ _ _ _ _ _ us hl => match us, hl with | [_, _, _], _ => rfl
abbrev s_is_even : Stmt := topS 46
theorem sc_is_even : FnScope ["frame", "moves", "stem", "ring", "total", "other"] ["frame", "moves", "stem", "ring"] (defScope s_is_even) :=
  ⟨rfl, rfl, rfl, by decide +kernel, rfl, by decide +kernel, by decide +kernel⟩
theorem bi_is_even {K : PySem.W.Frag} {f : Addr} {fd : FuncData}
    (F : Fun K "is_even" "is_even" s_is_even f fd) : Binds K fd ["frame", "moves", "stem", "ring"] [] :=
  F.binds fun _ _ _ _ _ _ us hl => match us, hl with | [_, _, _, _], _ => rfl
abbrev s__law_hand : Stmt := topS 48
theorem sc__law_hand : FnScope ["_law_script", "_law_k", "_law_cell", "_law_great"] ["_law_script", "_law_k"] (defScope s__law_hand) :=
  ⟨rfl, rfl, rfl, by decide +kernel, rfl, by decide +kernel, by decide +kernel⟩
theorem bi__law_hand {K : PySem.W.Frag} {f : Addr} {fd : FuncData}
    (F : Fun K "_law_hand" "_law_hand" s__law_hand f fd) : Binds K fd ["_law_script", "_law_k"] [] :=
  F.binds fun _ _ _ _ _ _ us hl => match us, hl with | [_, _], _ => rfl
abbrev s__law_take : Stmt := topS 49
theorem sc__law_take : FnScope ["_law_hand_here", "_law_many", "_law_prime", "_law_drawn", "_law_digit"] ["_law_hand_here", "_law_many"] (defScope s__law_take) :=
  ⟨rfl, rfl, rfl, by decide +kernel, rfl, by decide +kernel, by decide +kernel⟩
theorem bi__law_take {K : PySem.W.Frag} {f : Addr} {fd : FuncData}
    (F : Fun K "_law_take" "_law_take" s__law_take f fd) : Binds K fd ["_law_hand_here", "_law_many"] [] :=
  F.binds fun _ _ _ _ _ _ us hl => match us, hl with | [_, _], _ => rfl
abbrev s__law_of : Stmt := topS 50
theorem sc__law_of : FnScope ["_law_hand_here", "_law_some"] ["_law_hand_here", "_law_some"] (defScope s__law_of) :=
  ⟨rfl, rfl, rfl, by decide +kernel, rfl, by decide +kernel, by decide +kernel⟩
theorem bi__law_of {K : PySem.W.Frag} {f : Addr} {fd : FuncData}
    (F : Fun K "_law_of" "_law_of" s__law_of f fd) : Binds K fd ["_law_hand_here", "_law_some"] [] :=
  F.binds fun _ _ _ _ _ _ us hl => match us, hl with | [_, _], _ => rfl
abbrev s__law_sum : Stmt := topS 51
theorem sc__law_sum : FnScope ["_law_scale", "_law_here", "_law_there", "_law_mine", "_law_its", "_law_size"] ["_law_scale", "_law_here", "_law_there"] (defScope s__law_sum) :=
  ⟨rfl, rfl, rfl, by decide +kernel, rfl, by decide +kernel, by decide +kernel⟩
theorem bi__law_sum {K : PySem.W.Frag} {f : Addr} {fd : FuncData}
    (F : Fun K "_law_sum" "_law_sum" s__law_sum f fd) : Binds K fd ["_law_scale", "_law_here", "_law_there"] [] :=
  F.binds fun _ _ _ _ _ _ us hl => match us, hl with | [_, _, _], _ => rfl
abbrev s__law_at : Stmt := topS 52
theorem sc__law_at : FnScope ["_law_grid", "_law_at_here", "_law_to"] ["_law_grid", "_law_at_here", "_law_to"] (defScope s__law_at) :=
  ⟨rfl, rfl, rfl, by decide +kernel, rfl, by decide +kernel, by decide +kernel⟩
theorem bi__law_at {K : PySem.W.Frag} {f : Addr} {fd : FuncData}
    (F : Fun K "_law_at" "_law_at" s__law_at f fd) : Binds K fd ["_law_grid", "_law_at_here", "_law_to"] [] :=
  F.binds fun _ _ _ _ _ _ us hl => match us, hl with | [_, _, _], _ => rfl
abbrev s__law_led : Stmt := topS 53
theorem sc__law_led : FnScope ["_law_scale", "_law_turn", "_law_spot", "_law_found", "_law_to", "_law_at_here", "_law_says"] ["_law_scale", "_law_turn", "_law_spot"] (defScope s__law_led) :=
  ⟨rfl, rfl, rfl, by decide +kernel, rfl, by decide +kernel, by decide +kernel⟩
theorem bi__law_led {K : PySem.W.Frag} {f : Addr} {fd : FuncData}
    (F : Fun K "_law_led" "_law_led" s__law_led f fd) : Binds K fd ["_law_scale", "_law_turn", "_law_spot"] [] :=
  F.binds fun _ _ _ _ _ _ us hl => match us, hl with | [_, _, _], _ => rfl
abbrev s__law_behind : Stmt := topS 54
theorem sc__law_behind : FnScope ["_law_scale", "_law_first", "_law_second", "_law_at_here", "_law_leads", "_law_found", "_law_line", "_law_to"] ["_law_scale", "_law_first", "_law_second"] (defScope s__law_behind) :=
  ⟨rfl, rfl, rfl, by decide +kernel, rfl, by decide +kernel, by decide +kernel⟩
theorem bi__law_behind {K : PySem.W.Frag} {f : Addr} {fd : FuncData}
    (F : Fun K "_law_behind" "_law_behind" s__law_behind f fd) : Binds K fd ["_law_scale", "_law_first", "_law_second"] [] :=
  F.binds fun _ _ _ _ _ _ us hl => match us, hl with | [_, _, _], _ => rfl
abbrev s__law_still : Stmt := topS 55
theorem sc__law_still : FnScope ["_law_scale", "_law_size", "_law_at_here"] ["_law_scale", "_law_size"] (defScope s__law_still) :=
  ⟨rfl, rfl, rfl, by decide +kernel, rfl, by decide +kernel, by decide +kernel⟩
theorem bi__law_still {K : PySem.W.Frag} {f : Addr} {fd : FuncData}
    (F : Fun K "_law_still" "_law_still" s__law_still f fd) : Binds K fd ["_law_scale", "_law_size"] [] :=
  F.binds fun _ _ _ _ _ _ us hl => match us, hl with | [_, _], _ => rfl
abbrev s__law_knots : Stmt := topS 56
theorem sc__law_knots : FnScope ["_law_scale", "_law_found", "_law_size", "_law_longer", "_law_some", "_law_number"] ["_law_scale"] (defScope s__law_knots) :=
  ⟨rfl, rfl, rfl, by decide +kernel, rfl, by decide +kernel, by decide +kernel⟩
theorem bi__law_knots {K : PySem.W.Frag} {f : Addr} {fd : FuncData}
    (F : Fun K "_law_knots" "_law_knots" s__law_knots f fd) : Binds K fd ["_law_scale"] [] :=
  F.binds fun _ _ _ _ _ _ us hl => match us, hl with | [_], _ => rfl
abbrev s__law_grids : Stmt := topS 57
theorem sc__law_grids : FnScope ["_law_scale", "_law_size", "_law_at_here", "_law_found", "_law_knots_here", "_law_lines", "_law_to", "_law_longer", "_law_grid", "_law_line", "_law_knot"] ["_law_scale", "_law_size"] (defScope s__law_grids) :=
  ⟨rfl, rfl, rfl, by decide +kernel, rfl, by decide +kernel, by decide +kernel⟩
theorem bi__law_grids {K : PySem.W.Frag} {f : Addr} {fd : FuncData}
    (F : Fun K "_law_grids" "_law_grids" s__law_grids f fd) : Binds K fd ["_law_scale", "_law_size"] [] :=
  F.binds fun _ _ _ _ _ _ us hl => match us, hl with | [_, _], _ => rfl
abbrev s__law_orders : Stmt := topS 58
theorem sc__law_orders : FnScope ["_law_hues", "_law_found", "_law_hue", "_law_longer", "_law_some", "_law_to"] ["_law_hues"] (defScope s__law_orders) :=
  ⟨rfl, rfl, rfl, by decide +kernel, rfl, by decide +kernel, by decide +kernel⟩
theorem bi__law_orders {K : PySem.W.Frag} {f : Addr} {fd : FuncData}
    (F : Fun K "_law_orders" "_law_orders" s__law_orders f fd) : Binds K fd ["_law_hues"] [] :=
  F.binds fun _ _ _ _ _ _ us hl => match us, hl with | [_], _ => rfl
abbrev s__law_turnings : Stmt := topS 59
theorem sc__law_turnings : FnScope ["_law_scale", "_law_hues", "_law_leads", "_law_found", "_law_grids_here", "_law_grid"] ["_law_scale", "_law_hues"] (defScope s__law_turnings) :=
  ⟨rfl, rfl, rfl, by decide +kernel, rfl, by decide +kernel, by decide +kernel⟩
theorem bi__law_turnings {K : PySem.W.Frag} {f : Addr} {fd : FuncData}
    (F : Fun K "_law_turnings" "_law_turnings" s__law_turnings f fd) : Binds K fd ["_law_scale", "_law_hues"] [] :=
  F.binds fun _ _ _ _ _ _ us hl => match us, hl with | [_, _], _ => rfl
abbrev s__law_places : Stmt := topS 60
theorem sc__law_places : FnScope ["_law_scale", "_law_size", "_law_at_here", "_law_found", "_law_knots_here", "_law_some", "_law_to", "_law_longer", "_law_says", "_law_knot"] ["_law_scale", "_law_size"] (defScope s__law_places) :=
  ⟨rfl, rfl, rfl, by decide +kernel, rfl, by decide +kernel, by decide +kernel⟩
theorem bi__law_places {K : PySem.W.Frag} {f : Addr} {fd : FuncData}
    (F : Fun K "_law_places" "_law_places" s__law_places f fd) : Binds K fd ["_law_scale", "_law_size"] [] :=
  F.binds fun _ _ _ _ _ _ us hl => match us, hl with | [_, _], _ => rfl
abbrev s__law_little : Stmt := topS 61
theorem sc__law_little : FnScope ["_law_hand_here", "_law_some"] ["_law_hand_here"] (defScope s__law_little) :=
  ⟨rfl, rfl, rfl, by decide +kernel, rfl, by decide +kernel, by decide +kernel⟩
theorem bi__law_little {K : PySem.W.Frag} {f : Addr} {fd : FuncData}
    (F : Fun K "_law_little" "_law_little" s__law_little f fd) : Binds K fd ["_law_hand_here"] [] :=
  F.binds fun _ _ _ _ _ _ us hl => match us, hl with | [_], _ => rfl
abbrev s__law_ring : Stmt := topS 62
theorem sc__law_ring : FnScope ["_law_scale", "_law_turn", "_law_spot", "_law_found", "_law_here"] ["_law_scale", "_law_turn", "_law_spot"] (defScope s__law_ring) :=
  ⟨rfl, rfl, rfl, by decide +kernel, rfl, by decide +kernel, by decide +kernel⟩
theorem bi__law_ring {K : PySem.W.Frag} {f : Addr} {fd : FuncData}
    (F : Fun K "_law_ring" "_law_ring" s__law_ring f fd) : Binds K fd ["_law_scale", "_law_turn", "_law_spot"] [] :=
  F.binds fun _ _ _ _ _ _ us hl => match us, hl with | [_, _, _], _ => rfl
abbrev s_law : Stmt := topS 63
theorem sc_law : FnScope ["_law_script", "_law_k", "_law_hand_here", "_law_turn", "_law_scale", "_law_hues", "_law_frame", "_law_every", "_law_total", "_law_even", "_law_all_spots", "_law_path", "_law_due", "_law_here", "_law_many", "_law_spot", "_law_other"] ["_law_script"] (defScope s_law) :=
  ⟨rfl, rfl, rfl, by decide +kernel, rfl, by decide +kernel, by decide +kernel⟩
theorem db_stays_2 {K : PySem.W.Frag} {f : Addr} {fd : FuncData}
    (F : FunT K "stays" "stays" s_stays [.int 1] f fd) : ∃ ds, Vals ([.int 1] : List V) ds ∧ Binds K fd ["frame", "turning", "times"] ds :=
  FunD.binds1 F 2 0 (by simp) (by rfl) fun T kV doc pm an cdv ct us its hl hi => match us, its, hl, hi with | [_, _], [_], _, _ => ⟨_, rfl, rfl⟩
def D.whole : D → Bool
  | .int _ => true
  | _ => false
def preWhole (ds : List D) : Prop := ∃ d, ds = [d] ∧ d.own = false
def fWhole : List D → D
  | [d] => .bl (D.whole d)
  | _ => .non
def D.within (a b : Int) : D → Bool
  | .int i => decide (a ≤ i) && decide (i ≤ b)
  | _ => false
def preWithin (ds : List D) : Prop :=
  ∃ d a b, ds = [d, .int a, .int b] ∧ d.own = false
def fWithin : List D → D
  | [d, .int a, .int b] => .bl (D.within a b d)
  | _ => .non
def dints (ns : List Int) : List D := ns.map D.int
def preProd (ds : List D) : Prop :=
  ∃ ns : List Int, ds = [.tup (dints ns)] ∧ ∀ n ∈ ns, 2 ≤ n ∧ n ≤ 5
def D.prod : List D → Int
  | .int i :: r => i * D.prod r
  | _ => 1
def D.meas : D → Bool
  | .tup xs => decide (1 ≤ xs.length) && decide (xs.length ≤ 3) &&
      xs.all (D.within 2 5) && decide (D.prod xs ≤ 30)
  | _ => false
def preMeas (ds : List D) : Prop := ∃ d, ds = [d] ∧ d.plain = true
def fMeas : List D → D
  | [d] => .bl (D.meas d)
  | _ => .non
def preHand (ds : List D) : Prop :=
  ∃ ns k, ds = [.scr ns, .int k] ∧ 0 ≤ k ∧ k ≤ 1000
def takeB : Int := 16 ^ 16 * 125 ^ 140
theorem takeB_of {n : Int} (h : n < 2 ^ 62) : n < takeB := Int.lt_trans h (by unfold takeB; decide +kernel)
theorem takeB_nat {n : Int} (h0 : 0 < n) (h : n < takeB) : n.natAbs < 2 ^ 1100 := by
  have e : takeB.natAbs < 2 ^ 1100 := by unfold takeB; decide +kernel
  refine Nat.lt_of_le_of_lt ?_ e
  omega
def preTake (m : Nat) (ds : List D) : Prop :=
  m < 10000000 ∧ ∃ n : Int, ds = [.int n] ∧ 0 < n ∧ n < takeB
def psiTake (ds : List D) (m m' : Nat) (d : D) : Prop :=
  m' ≤ m + 1 ∧ ∃ n r : Int, ds = [.int n] ∧ d = .int r ∧ 0 ≤ r ∧ r < n
def preOf (m : Nat) (ds : List D) : Prop :=
  m < 10000000 ∧ ∃ c xs, ds = [c] ∧ c.items = some xs ∧ xs ≠ [] ∧
    xs.length < 1000000
def psiOf (ds : List D) (m m' : Nat) (d : D) : Prop :=
  m' ≤ m + 1 ∧ ∃ c xs, ds = [c] ∧ c.items = some xs ∧ d ∈ xs
theorem plain_own {d : D} (h : d.plain = true) : d.own = false := by
  cases d <;> first | rfl | (simp [D.plain] at h)
theorem plains_mem : ∀ {xs : List D} {x : D}, D.plains xs = true → x ∈ xs →
    x.plain = true
  | y :: ys, x, h, hm => by
    rw [D.plains, Bool.and_eq_true] at h
    rcases List.mem_cons.mp hm with rfl | hm
    · exact h.1
    · exact plains_mem h.2 hm
theorem prod_append (ns : List Int) (n : Int) :
    D.prod (dints (ns ++ [n])) = D.prod (dints ns) * n := by
  induction ns with
  | nil => simp [dints, D.prod]
  | cons a r ih =>
    have e1 : D.prod (dints (a :: r ++ [n])) = a * D.prod (dints (r ++ [n])) := rfl
    have e2 : D.prod (dints (a :: r)) = a * D.prod (dints r) := rfl
    rw [e1, e2, ih, Int.mul_assoc]
theorem prod_take {ns : List Int} {i : Nat} (h : i < ns.length) :
    D.prod (dints (ns.take (i + 1))) = D.prod (dints (ns.take i)) * ns[i] := by
  rw [List.take_add_one, List.getElem?_eq_getElem h]
  exact prod_append _ _
theorem within_len {n : Nat} {b : Bool} (h : D.within 1 3 (.int n) = b) :
    (decide (1 ≤ n) && decide (n ≤ 3)) = b := by
  rw [← h, D.within]
  congr 1
  · simp only [decide_eq_decide]; omega
  · simp only [decide_eq_decide]; omega
theorem prod_pre {xs : List D} (h : xs.all (D.within 2 5) = true) :
    preProd [.tup xs] := by
  have key : ∀ xs : List D, xs.all (D.within 2 5) = true →
      ∃ ns : List Int, xs = dints ns ∧ ∀ n ∈ ns, 2 ≤ n ∧ n ≤ 5 := by
    intro xs
    induction xs with
    | nil => intro _; exact ⟨[], rfl, fun _ z => (nomatch z)⟩
    | cons x r ih =>
      intro h
      rw [List.all_cons, Bool.and_eq_true] at h
      obtain ⟨ns, rfl, hn⟩ := ih h.2
      cases x with
      | int i =>
        have hi := h.1
        rw [D.within, Bool.and_eq_true, decide_eq_true_eq, decide_eq_true_eq] at hi
        refine ⟨i :: ns, rfl, fun n hm => ?_⟩
        rcases List.mem_cons.mp hm with rfl | hm
        · exact hi
        · exact hn n hm
      | _ => simp [D.within] at h
  obtain ⟨ns, rfl, hn⟩ := key xs h
  exact ⟨ns, rfl, hn⟩
theorem primes_at {i : Int} (h0 : 0 ≤ i) (h1 : i < 7) : ∃ p : Int,
    [D.int 2147483647, .int 2147483629, .int 2147483587, .int 2147483579,
      .int 2147483563, .int 2147483549, .int 2147483543][i.toNat]? =
      some (.int p) ∧ 0 < p ∧ p < 2147483648 := by
  have : i = 0 ∨ i = 1 ∨ i = 2 ∨ i = 3 ∨ i = 4 ∨ i = 5 ∨ i = 6 := by omega
  rcases this with rfl | rfl | rfl | rfl | rfl | rfl | rfl <;>
    exact ⟨_, rfl, by decide, by decide⟩
theorem hand_mul (x : Int) (b : Bool) :
    CMulW (x % 10 ^ 600) (if b then 1 else 0) := by
  have h1 := Int.emod_nonneg x (show (10 : Int) ^ 600 ≠ 0 by decide +kernel)
  have h2 := Int.emod_lt_of_pos x (show (0 : Int) < 10 ^ 600 by decide +kernel)
  refine wide_mul (a := 2000) (b := 1) ?_ (by cases b <;> decide)
    (by decide) (by decide) (by decide)
  have h3 : (10 : Int) ^ 600 ≤ 2 ^ 2000 := by decide +kernel
  omega
theorem hand_is (x y z : Int) (b : Bool) :
    isHand (.lst [.int (x % 10 ^ 600 * if b then 1 else 0),
      .int ((y + z + 97) % 2305843009213693921), .int 0]) := by
  have h1 := Int.emod_nonneg x (show (10 : Int) ^ 600 ≠ 0 by decide +kernel)
  have h2 := Int.emod_lt_of_pos x (show (0 : Int) < 10 ^ 600 by decide +kernel)
  have h3 := Int.emod_nonneg (y + z + 97)
    (show (2305843009213693921 : Int) ≠ 0 by decide)
  have h4 := Int.emod_lt_of_pos (y + z + 97)
    (show (0 : Int) < 2305843009213693921 by decide)
  refine ⟨_, _, rfl, ?_, ?_, h3, by omega⟩
  · cases b
    · rw [if_neg Bool.false_ne_true, Int.mul_zero]; decide
    · rw [if_pos rfl, Int.mul_one]; exact h1
  · cases b
    · rw [if_neg Bool.false_ne_true, Int.mul_zero]; decide +kernel
    · rw [if_pos rfl, Int.mul_one]; exact h2
theorem take_base {s c d : Int} (s1 : 0 ≤ s) (s2 : s < 2 ^ 61) (c1 : 0 ≤ c)
    (c2 : c ≤ 10000000) (d1 : 0 ≤ d) (d2 : d ≤ 10000000) :
    (s + 7919 * c * d + 31).natAbs < 2 ^ 64 := by
  have h1 : 7919 * c * d ≤ 7919 * 10000000 * 10000000 :=
    Int.mul_le_mul (by omega) d2 d1 (by omega)
  have h2 : 0 ≤ 7919 * c * d := Int.mul_nonneg (by omega) d1
  omega
theorem dints_append (as bs : List Int) :
    dints as ++ dints bs = dints (as ++ bs) := (List.map_append ..).symm
theorem dints_length (as : List Int) : (dints as).length = as.length :=
  List.length_map ..
def showsB (d : D) : Bool :=
  itmB 100 2000 d && (!d.py.hasDict || d.noLst)
theorem Shows.of {d : D} (h : showsB d = true) : Shows d := by
  unfold showsB at h
  rw [Bool.and_eq_true] at h
  refine (Itm.of h.1).shows (by omega) (by omega) fun z => ?_
  rw [z] at h
  simpa using h.2
def uints : List D → List Int
  | .int i :: r => i :: uints r
  | _ => []
theorem uints_dints (ns : List Int) : uints (dints ns) = ns := by
  induction ns with
  | nil => rfl
  | cons a r ih =>
    show a :: uints (dints r) = _
    rw [ih]
theorem dints_get {ns : List Int} {c : Nat} {d : D}
    (h : (dints ns)[c]? = some d) : ∃ n, ns[c]? = some n ∧ d = .int n := by
  rw [dints, List.getElem?_map] at h
  cases e : ns[c]? with
  | none => rw [e] at h; cases h
  | some t =>
    rw [e] at h
    exact ⟨t, rfl, (Option.some.inj h).symm⟩
theorem dints_rep (n : Nat) (x : Int) : dints (List.replicate n x) =
    List.replicate n (.int x) := List.map_replicate ..
def z3 (f : Int → Int → Int → Int) : List Int → List Int → List Int → List Int
  | x :: xs, y :: ys, z :: zs => f x y z :: z3 f xs ys zs
  | _, _, _ => []
theorem z3_len (f : Int → Int → Int → Int) : ∀ xs ys zs : List Int,
    (z3 f xs ys zs).length = min (min xs.length ys.length) zs.length
  | [], _, _ => by simp [z3]
  | _ :: _, [], _ => by simp [z3]
  | _ :: _, _ :: _, [] => by simp [z3]
  | x :: xs, y :: ys, z :: zs => by
    rw [z3, List.length_cons, z3_len f xs ys zs]
    simp only [List.length_cons]
    omega
theorem z3_get {f : Int → Int → Int → Int} : ∀ {xs ys zs : List Int} {c : Nat}
    {x y z : Int}, xs[c]? = some x → ys[c]? = some y → zs[c]? = some z →
    (z3 f xs ys zs)[c]? = some (f x y z)
  | [], _, _, _, _, _, _, h, _, _ => by simp at h
  | _ :: _, [], _, _, _, _, _, _, h, _ => by simp at h
  | _ :: _, _ :: _, [], _, _, _, _, _, _, h => by simp at h
  | a :: xs, b :: ys, d :: zs, 0, x, y, z, h1, h2, h3 => by
    simp at h1 h2 h3
    subst h1 h2 h3
    rfl
  | a :: xs, b :: ys, d :: zs, c + 1, x, y, z, h1, h2, h3 => by
    simp only [List.getElem?_cons_succ] at h1 h2 h3
    rw [z3, List.getElem?_cons_succ]
    exact z3_get h1 h2 h3
theorem zw_get {f : Int → Int → Int} {xs ys : List Int} {c : Nat} {x y : Int}
    (h1 : xs[c]? = some x) (h2 : ys[c]? = some y) :
    (List.zipWith f xs ys)[c]? = some (f x y) := by
  rw [List.getElem?_zipWith, h1, h2]
theorem take_snoc {α : Type} {xs : List α} {c : Nat} {x : α}
    (h : xs[c]? = some x) : xs.take (c + 1) = xs.take c ++ [x] := by
  rw [List.take_add_one, h]; rfl
theorem dints_snoc (xs : List Int) (x : Int) :
    dints xs ++ [D.int x] = dints (xs ++ [x]) := dints_append xs [x]
/-- one of two of the same length has an item where the other has -/
theorem get_of_len {α β : Type} {xs : List α} {ys : List β} {c : Nat} {x : α}
    (h : xs.length ≤ ys.length) (hx : xs[c]? = some x) :
    ∃ y, ys[c]? = some y := by
  have := (List.getElem?_eq_some_iff.mp hx).1
  exact ⟨ys[c]'(by omega), List.getElem?_eq_getElem _⟩
theorem ext_of_get {α : Type} {xs ys : List α} (hl : xs.length = ys.length)
    (h : ∀ (c : Nat) x y, xs[c]? = some x → ys[c]? = some y → x = y) : xs = ys := by
  apply List.ext_getElem hl
  intro c h1 h2
  exact h c _ _ (List.getElem?_eq_getElem h1) (List.getElem?_eq_getElem h2)
section
variable {K : PySem.W.Frag} {l : Option Addr} {ρ : Ro} {m : Nat}
variable {Φ : Nat → D → Prop} {te tl : TE} {tA : TA}
/-- a row of numbers, made of three rows item by item -/
theorem e_lcZ3i {f : Int → Int → Int → Int} {i j k : Nat}
    (hi : ρ[i]? = some none) (hj : ρ[j]? = some none)
    (hk : ρ[k]? = some none) (hij : i ≠ j) (hik : i ≠ k) (hjk : j ≠ k)
    (h : AvC K l tA ρ m fun m1 as => ∃ xs ys zs : List Int,
      as = [.tup (dints xs), .tup (dints ys), .tup (dints zs)] ∧
      xs.length ≤ 50000 ∧
      (∀ (c : Nat) x y z, xs[c]? = some x → ys[c]? = some y → zs[c]? = some z →
        EvC K l te (((ρ.set i (some (.dat (.int x)))).set j
          (some (.dat (.int y)))).set k (some (.dat (.int z)))) m1
          fun n2 d => n2 = m1 ∧ d = .int (f x y z)) ∧
      Φ m1 (.lst (dints (z3 f xs ys zs)))) :
    EvC K l (tLc (iZip3 K tA) (g3 K i j k) tYes te [i, j, k]) ρ m Φ := by
  refine e_lcZ3 hi hj hk hij hik hjk (a_imp h fun m1 as q => ?_)
  obtain ⟨xs, ys, zs, rfl, hl, hb, hq⟩ := q
  refine ⟨_, _, _, rfl, by rw [dints_length]; exact hl, fun c n acc =>
    n = m1 ∧ acc = dints ((z3 f xs ys zs).take c), ⟨rfl, rfl⟩, ?_, ?_⟩
  · intro c n acc d e g h1 h2 h3 hI _
    obtain ⟨rfl, rfl⟩ := hI
    obtain ⟨x, e1, rfl⟩ := dints_get h1
    obtain ⟨y, e2, rfl⟩ := dints_get h2
    obtain ⟨z, e3, rfl⟩ := dints_get h3
    refine e_imp (hb c x y z e1 e2 e3) fun n2 d q => ?_
    obtain ⟨rfl, rfl⟩ := q
    exact ⟨rfl, by rw [take_snoc (z3_get e1 e2 e3), dints_snoc]⟩
  · intro n acc _ hI
    obtain ⟨rfl, rfl⟩ := hI
    rw [dints_length, dints_length, dints_length, ← z3_len f,
      List.take_length]
    exact hq
theorem e_lcZi {f : Int → Int → Int} {i j : Nat}
    (hi : ρ[i]? = some none) (hj : ρ[j]? = some none) (hij : i ≠ j)
    (h : AvC K l tA ρ m fun m1 as => ∃ xs ys : List Int,
      as = [.tup (dints xs), .tup (dints ys)] ∧ xs.length ≤ 50000 ∧
      (∀ (c : Nat) x y, xs[c]? = some x → ys[c]? = some y →
        EvC K l te ((ρ.set i (some (.dat (.int x)))).set j
          (some (.dat (.int y)))) m1 fun n2 d => n2 = m1 ∧ d = .int (f x y)) ∧
      Φ m1 (.lst (dints (List.zipWith f xs ys)))) :
    EvC K l (tLc (RZ.iZipA K tA) (g2 K i j) tYes te [i, j]) ρ m Φ := by
  refine e_lcZ hi hj hij (a_imp h fun m1 as q => ?_)
  obtain ⟨xs, ys, rfl, hl, hb, hq⟩ := q
  refine ⟨_, _, rfl, by rw [dints_length]; exact hl, fun c n acc =>
    n = m1 ∧ acc = dints ((List.zipWith f xs ys).take c), ⟨rfl, rfl⟩, ?_, ?_⟩
  · intro c n acc d e h1 h2 hI _
    obtain ⟨rfl, rfl⟩ := hI
    obtain ⟨x, e1, rfl⟩ := dints_get h1
    obtain ⟨y, e2, rfl⟩ := dints_get h2
    refine e_imp (hb c x y e1 e2) fun n2 d q => ?_
    obtain ⟨rfl, rfl⟩ := q
    exact ⟨rfl, by rw [take_snoc (zw_get e1 e2), dints_snoc]⟩
  · intro n acc _ hI
    obtain ⟨rfl, rfl⟩ := hI
    rw [dints_length, dints_length, ← List.length_zipWith (f := f),
      List.take_length]
    exact hq
end
def MsP (ms : List Int) : Prop :=
  1 ≤ ms.length ∧ ms.length ≤ 3 ∧ ∀ m ∈ ms, 2 ≤ m ∧ m ≤ 5
def msB (ms : List Int) : Bool := decide (1 ≤ ms.length) &&
  decide (ms.length ≤ 3) && ms.all fun m => decide (2 ≤ m) && decide (m ≤ 5)
theorem MsP.of {ms : List Int} (h : msB ms = true) : MsP ms := by
  unfold msB at h
  simp only [Bool.and_eq_true, decide_eq_true_eq, List.all_eq_true] at h
  exact ⟨h.1.1, h.1.2, h.2⟩
def TieP (ms t : List Int) : Prop := t.length = ms.length ∧
  ∀ (c : Nat) (m x : Int), ms[c]? = some m → t[c]? = some x → 0 ≤ x ∧ x < m
theorem num_int {i : Int} (h1 : -10000 ≤ i) (h2 : i ≤ 10000) :
    Num 0 15 (.int i) := ⟨itm_int h1 h2, rfl⟩
theorem num_row {ns : List Int} {k : Nat} (hl : ns.length ≤ k)
    (h : ∀ n ∈ ns, -10000 ≤ n ∧ n ≤ 10000) :
    Num 1 (16 * k) (.tup (dints ns)) := by
  refine (Num.tup (k := 0) (w := 15) fun x hx => ?_).up (by omega) ?_
  · obtain ⟨n, hn, rfl⟩ := List.mem_map.mp hx
    exact num_int (h n hn).1 (h n hn).2
  · rw [dints_length]
    exact Nat.mul_le_mul_left 16 hl
theorem MsP.num {ms : List Int} (h : MsP ms) :
    Num 1 48 (.tup (dints ms)) :=
  num_row (k := 3) h.2.1 fun n hn => by have := h.2.2 n hn; omega
theorem TieP.bd {ms t : List Int} (h : TieP ms t) (hm : MsP ms) :
    ∀ x ∈ t, 0 ≤ x ∧ x ≤ 4 := by
  intro x hx
  obtain ⟨c, hc⟩ := List.getElem?_of_mem hx
  obtain ⟨m, e⟩ := get_of_len (Nat.le_of_eq h.1) hc
  have h1 := h.2 c m x e hc
  have h2 := hm.2.2 m (List.mem_of_getElem? e)
  omega
theorem TieP.num {ms t : List Int} (h : TieP ms t) (hm : MsP ms) :
    Num 1 48 (.tup (dints t)) :=
  num_row (k := 3) (by rw [h.1]; exact hm.2.1) fun n hn => by
    have := h.bd hm n hn; omega
def preMs1 (ds : List D) : Prop := ∃ ms, ds = [.tup (dints ms)] ∧ MsP ms
def fNou : List D → D
  | [.tup xs] => .tup (dints (List.replicate xs.length 0))
  | _ => .non
theorem tieP_of {ms t : List Int} (hm : MsP ms) (hl : t.length = ms.length)
    (h : ∀ (c : Nat) m x, ms[c]? = some m → t[c]? = some x → ∃ y, x = y % m) :
    TieP ms t := by
  refine ⟨hl, fun c m x h1 h2 => ?_⟩
  obtain ⟨y, rfl⟩ := h c m x h1 h2
  have := hm.2.2 m (List.mem_of_getElem? h1)
  exact ⟨Int.emod_nonneg _ (by omega), Int.emod_lt_of_pos _ (by omega)⟩
theorem rep_tie {ms : List Int} (hm : MsP ms) :
    TieP ms (List.replicate ms.length 0) := by
  refine ⟨by simp, fun c m x h1 h2 => ?_⟩
  have := hm.2.2 m (List.mem_of_getElem? h1)
  rw [List.getElem?_replicate] at h2
  split at h2
  · cases h2; omega
  · cases h2
def preTT (ds : List D) : Prop := ∃ ms a b,
  ds = [.tup (dints ms), .tup (dints a), .tup (dints b)] ∧ MsP ms ∧
  TieP ms a ∧ TieP ms b
def sumF (ms a b : List Int) : List Int :=
  z3 (fun x y m => (x + y) % m) a b ms
def lessF (ms a b : List Int) : List Int :=
  z3 (fun x y m => (x - y) % m) a b ms
def fSum : List D → D
  | [.tup ms, .tup a, .tup b] => .tup (dints (sumF (uints ms) (uints a) (uints b)))
  | _ => .non
def fLess : List D → D
  | [.tup ms, .tup a, .tup b] => .tup (dints (lessF (uints ms) (uints a) (uints b)))
  | _ => .non
theorem sum_tie {ms a b : List Int} (hm : MsP ms) (ha : TieP ms a)
    (hb : TieP ms b) : TieP ms (sumF ms a b) := by
  have h1 := ha.1
  have h2 := hb.1
  have hl : (sumF ms a b).length = ms.length := by
    unfold sumF; rw [z3_len]; omega
  refine tieP_of hm hl fun c m x em ex => ?_
  obtain ⟨p, ep⟩ := get_of_len (ys := a) (by omega) em
  obtain ⟨q, eq⟩ := get_of_len (ys := b) (by omega) em
  unfold sumF at ex
  rw [z3_get ep eq em] at ex
  exact ⟨_, (Option.some.inj ex).symm⟩
theorem less_tie {ms a b : List Int} (hm : MsP ms) (ha : TieP ms a)
    (hb : TieP ms b) : TieP ms (lessF ms a b) := by
  have h1 := ha.1
  have h2 := hb.1
  have hl : (lessF ms a b).length = ms.length := by
    unfold lessF; rw [z3_len]; omega
  refine tieP_of hm hl fun c m x em ex => ?_
  obtain ⟨p, ep⟩ := get_of_len (ys := a) (by omega) em
  obtain ⟨q, eq⟩ := get_of_len (ys := b) (by omega) em
  unfold lessF at ex
  rw [z3_get ep eq em] at ex
  exact ⟨_, (Option.some.inj ex).symm⟩
def preTimes (ds : List D) : Prop := ∃ ms t n,
  ds = [.tup (dints ms), .tup (dints t), .int n] ∧ MsP ms ∧ TieP ms t
def timesF (ms t : List Int) (n : Int) : List Int :=
  List.zipWith (fun x m => x * n % m) t ms
def fTimes : List D → D
  | [.tup ms, .tup t, .int n] => .tup (dints (timesF (uints ms) (uints t) n))
  | _ => .non
theorem times_len {ms t : List Int} (h : TieP ms t) (n : Int) :
    (timesF ms t n).length = ms.length := by
  unfold timesF
  rw [List.length_zipWith, h.1, Nat.min_self]
theorem times_get {ms t : List Int} {n m x : Int} {c : Nat}
    (h1 : ms[c]? = some m) (h2 : t[c]? = some x) :
    (timesF ms t n)[c]? = some (x * n % m) := zw_get h2 h1
theorem times_tie {ms t : List Int} (hm : MsP ms) (h : TieP ms t) (n : Int) :
    TieP ms (timesF ms t n) := by
  refine tieP_of hm (times_len h n) fun c m x h1 h2 => ?_
  obtain ⟨y, e⟩ := get_of_len (Nat.le_of_eq h.1.symm) h1
  rw [times_get h1 e] at h2
  exact ⟨_, (Option.some.inj h2).symm⟩
def preOrd (ds : List D) : Prop := ∃ ms t,
  ds = [.tup (dints ms), .tup (dints t)] ∧ MsP ms ∧ TieP ms t
def ordFrom (p : Nat → Bool) : Nat → Nat → Nat
  | 0, k => k
  | f + 1, k => if p k = true then k else ordFrom p f (k + 1)
def zeroAt (ms t : List Int) (k : Nat) : Bool :=
  timesF ms t k == List.replicate ms.length 0
def ordF (ms t : List Int) : Nat := ordFrom (zeroAt ms t) 60 1
def fOrd : List D → D
  | [.tup ms, .tup t] => .int (ordF (uints ms) (uints t))
  | _ => .non
theorem ordFrom_is {p : Nat → Bool} : ∀ {f k k0 : Nat}, k ≤ k0 →
    k0 ≤ k + f → p k0 = true → (∀ j, k ≤ j → j < k0 → p j = false) →
    ordFrom p f k = k0
  | 0, k, k0, h1, h2, _, _ => by
    have : k = k0 := by omega
    rw [ordFrom, this]
  | f + 1, k, k0, h1, h2, h3, h4 => by
    rw [ordFrom]
    by_cases e : k = k0
    · subst e
      rw [if_pos h3]
    · rw [h4 k (Nat.le_refl _) (by omega), if_neg Bool.false_ne_true]
      exact ordFrom_is (by omega) (by omega) h3 fun j a b => h4 j (by omega) b
theorem zero60 {ms t : List Int} (hm : MsP ms) (h : TieP ms t) :
    zeroAt ms t 60 = true := by
  unfold zeroAt
  rw [beq_iff_eq]
  refine ext_of_get (by rw [times_len h]; simp) fun c x y h1 h2 => ?_
  obtain ⟨m, em⟩ := get_of_len (Nat.le_of_eq (times_len h _)) h1
  obtain ⟨z, ez⟩ := get_of_len (Nat.le_of_eq h.1.symm) em
  rw [times_get em ez] at h1
  rw [List.getElem?_replicate] at h2
  split at h2
  · cases h2
    cases h1
    have := hm.2.2 m (List.mem_of_getElem? em)
    have : m = 2 ∨ m = 3 ∨ m = 4 ∨ m = 5 := by omega
    rcases this with rfl | rfl | rfl | rfl <;> omega
  · cases h2
theorem ordFrom_bd (p : Nat → Bool) : ∀ f k, k ≤ ordFrom p f k ∧
    ordFrom p f k ≤ k + f
  | 0, k => by rw [ordFrom]; omega
  | f + 1, k => by
    rw [ordFrom]
    split
    · omega
    · have := ordFrom_bd p f (k + 1)
      omega
theorem ord_bd (ms t : List Int) : 1 ≤ ordF ms t ∧ ordF ms t ≤ 61 := by
  have := ordFrom_bd (zeroAt ms t) 60 1
  exact ⟨this.1, this.2⟩
def MsQ (ms : List Int) : Prop := MsP ms ∧ D.prod (dints ms) ≤ 30
def HuP (hs : List Int) : Prop :=
  2 ≤ hs.length ∧ hs.length ≤ 16 ∧ ∀ n ∈ hs, 0 ≤ n ∧ n ≤ 9
def D.huesB : D → Bool
  | .tup xs => decide (2 ≤ xs.length) && decide (xs.length ≤ 16) &&
      xs.all (D.within 0 9)
  | _ => false
def fHue : List D → D
  | [d] => .bl (D.within 0 9 d)
  | _ => .non
def fHues : List D → D
  | [d] => .bl (D.huesB d)
  | _ => .non
abbrev frD (C : Addr) (ms hs : List Int) : D :=
  .ins C ["measure", "hues"] [.tup (dints ms), .tup (dints hs)]
def preFrame (ds : List D) : Prop := ∃ ms hs,
  ds = [.tup (dints ms), .tup (dints hs)] ∧ MsQ ms ∧ HuP hs
theorem within_all {ns : List Int} {a b : Int} (h : ∀ n ∈ ns, a ≤ n ∧ n ≤ b) :
    (dints ns).all (D.within a b) = true := by
  rw [dints, List.all_map, List.all_eq_true]
  intro n hn
  have := h n hn
  simp [D.within, this.1, this.2]
theorem meas_of {ms : List Int} (h : MsQ ms) :
    D.meas (.tup (dints ms)) = true := by
  rw [D.meas, within_all h.1.2.2, dints_length, decide_eq_true h.1.1,
    decide_eq_true h.1.2.1, decide_eq_true h.2]
  rfl
theorem hues_of {hs : List Int} (h : HuP hs) :
    D.huesB (.tup (dints hs)) = true := by
  rw [D.huesB, within_all h.2.2, dints_length, decide_eq_true h.1,
    decide_eq_true h.2.1]
  rfl
theorem plain_ints (ns : List Int) : (D.tup (dints ns)).plain = true := by
  rw [D.plain, plains_all, List.all_eq_true]
  intro x hx
  obtain ⟨n, _, rfl⟩ := List.mem_map.mp hx
  rfl
theorem HuP.num {hs : List Int} (h : HuP hs) :
    Num 1 256 (.tup (dints hs)) :=
  num_row (k := 16) h.2.1 fun n hn => by have := h.2.2 n hn; omega
abbrev dtab (T : List (List (List Int))) : D :=
  .tup (T.map fun r => .tup (r.map fun t => .tup (dints t)))
def TabP (ms : List Int) (n : Nat) (T : List (List (List Int))) : Prop :=
  T.length = n ∧ ∀ (i : Nat) r, T[i]? = some r → r.length = i ∧
    ∀ t ∈ r, TieP ms t
def dsub : D → Nat → Option D
  | .tup xs, n => xs[n]?
  | _, _ => none
theorem TabP.num {ms : List Int} {n : Nat} {T : List (List (List Int))}
    (hM : MsP ms) (hn : n ≤ 16) (h : TabP ms n T) :
    Num 3 16000 (dtab T) := by
  refine (Num.tup (k := 2) (w := 900) fun x hx => ?_).up (by omega) ?_
  · obtain ⟨r, hr, rfl⟩ := List.mem_map.mp hx
    obtain ⟨i, hi⟩ := List.getElem?_of_mem hr
    have h1 := h.2 i r hi
    have hi2 := (List.getElem?_eq_some_iff.mp hi).1
    refine (Num.tup (k := 1) (w := 48) fun y hy => ?_).up (by omega) ?_
    · obtain ⟨t, ht, rfl⟩ := List.mem_map.mp hy
      exact (h1.2 t ht).num hM
    · rw [List.length_map, h1.1]
      have := h.1
      omega
  · rw [List.length_map, h.1]
    omega
theorem TabP.at {ms : List Int} {n : Nat} {T : List (List (List Int))}
    (h : TabP ms n T) {i j : Nat} (hi : i < n) (hj : j < i) :
    ∃ r t, T[i]? = some r ∧ r[j]? = some t ∧ TieP ms t := by
  have hl := h.1
  obtain ⟨r, hr⟩ : ∃ r, T[i]? = some r := ⟨T[i]'(by omega), List.getElem?_eq_getElem _⟩
  have h1 := h.2 i r hr
  obtain ⟨t, ht⟩ : ∃ t, r[j]? = some t := ⟨r[j]'(by omega), List.getElem?_eq_getElem _⟩
  exact ⟨r, t, hr, ht, h1.2 t (List.mem_of_getElem? ht)⟩
theorem dtab_sub {T : List (List (List Int))} {i : Nat} {r : List (List Int)}
    (h : T[i]? = some r) : dsub (dtab T) i =
      some (.tup (r.map fun t => .tup (dints t))) := by
  rw [dtab, dsub, List.getElem?_map, h]; rfl
theorem drow_sub {r : List (List Int)} {j : Nat} {t : List Int}
    (h : r[j]? = some t) : dsub (D.tup (r.map fun t => .tup (dints t))) j =
      some (.tup (dints t)) := by
  rw [dsub, List.getElem?_map, h]; rfl
def mxI (i j : Int) : Int := if j > i then j else i
def mnI (i j : Int) : Int := if j < i then j else i
def preTab (ds : List D) : Prop := ∃ t i j r d, ds = [t, .int i, .int j] ∧
  0 ≤ i ∧ 0 ≤ j ∧ dsub t (mxI i j).toNat = some r ∧
  dsub r (mnI i j).toNat = some d
def tabAt (t : D) (i j : Int) : D :=
  ((dsub t (mxI i j).toNat).bind fun r => dsub r (mnI i j).toNat).getD .non
def fTab : List D → D
  | [t, .int i, .int j] => tabAt t i j
  | _ => .non
def negF (ms x : List Int) : List Int :=
  lessF ms (List.replicate ms.length 0) x
theorem dints_inj {a b : List Int} (h : dints a = dints b) : a = b := by
  have := congrArg uints h
  rwa [uints_dints, uints_dints] at this
theorem tup_inj {a b : List Int} (h : D.tup (dints a) = .tup (dints b)) :
    a = b := dints_inj (D.tup.inj h)
abbrev dsays (S : List (List Int)) : D := .tup (S.map fun t => .tup (dints t))
def usays : D → List (List Int)
  | .tup xs => xs.map fun d => match d with
    | .tup ys => uints ys
    | _ => []
  | _ => []
theorem usays_dsays (S : List (List Int)) : usays (dsays S) = S := by
  rw [dsays, usays, List.map_map]
  conv => rhs; rw [← List.map_id S]
  apply List.map_congr_left
  intro t _
  exact uints_dints t
abbrev dplace (a : Nat) (S : List (List Int)) : D := .tup [.int a, dsays S]
structure PlP (ms : List Int) (n a : Nat) (S : List (List Int)) : Prop where
  lt : a < n
  len : S.length = n
  tie : ∀ t ∈ S, TieP ms t
  own : S[a]? = some (List.replicate ms.length 0)
theorem dsays_get {S : List (List Int)} {c : Nat} {t : List Int}
    (h : S[c]? = some t) :
    (S.map fun t => D.tup (dints t))[c]? = some (.tup (dints t)) := by
  rw [List.getElem?_map, h]; rfl
theorem says_get {S : List (List Int)} {n c : Nat} (hl : S.length = n)
    (hc : c < n) : ∃ t, S[c]? = some t :=
  ⟨S[c]'(by omega), List.getElem?_eq_getElem _⟩
theorem getD_of {S : List (List Int)} {c : Nat} {t : List Int}
    (h : S[c]? = some t) : S.getD c [] = t := by
  rw [List.getD_eq_getElem?_getD, h]; rfl
def preLaw0 (ds : List D) : Prop := ∃ ns, ds = [.scr ns]
theorem num_place {ms : List Int} {n a : Nat} {S : List (List Int)}
    (hM : MsP ms) (hn : n ≤ 17) (ha : a < n) (hl : S.length = n)
    (ht : ∀ t ∈ S, TieP ms t) : Num 3 1700 (dplace a S) := by
  have h1 : Num 2 833 (dsays S) := by
    refine (Num.tup (k := 1) (w := 48) fun x hx => ?_).up (by omega) ?_
    · obtain ⟨t, h, rfl⟩ := List.mem_map.mp hx
      exact (ht t h).num hM
    · rw [List.length_map]; omega
  refine (Num.tup (k := 2) (w := 833) fun x hx => ?_).up (by omega) (by simp)
  simp only [List.mem_cons, List.not_mem_nil, or_false] at hx
  rcases hx with rfl | rfl
  · exact (num_int (by omega) (by omega)).up (by omega) (by omega)
  · exact h1

theorem pNou {ms : List Int} (hM : MsP ms) : preMs1 [.tup (dints ms)] :=
  ⟨ms, rfl, hM⟩
theorem fNou_is (ms : List Int) : fNou [.tup (dints ms)] =
    .tup (dints (List.replicate ms.length 0)) := by rw [fNou, dints_length]
theorem pTT {ms a b : List Int} (hM : MsP ms) (ha : TieP ms a)
    (hb : TieP ms b) : preTT [.tup (dints ms), .tup (dints a), .tup (dints b)] :=
  ⟨ms, a, b, rfl, hM, ha, hb⟩
theorem fSum_is (ms a b : List Int) :
    fSum [.tup (dints ms), .tup (dints a), .tup (dints b)] =
      .tup (dints (sumF ms a b)) := by
  rw [fSum, uints_dints, uints_dints, uints_dints]
theorem fLess_is (ms a b : List Int) :
    fLess [.tup (dints ms), .tup (dints a), .tup (dints b)] =
      .tup (dints (lessF ms a b)) := by
  rw [fLess, uints_dints, uints_dints, uints_dints]
section
variable {K : PySem.W.Frag} {l : Option Addr} {ρ : Ro} {m : Nat}
variable {Φ : Nat → D → Prop}
theorem v_rep0 {ms : List Int} (hM : MsP ms)
    (q : Φ m (.tup (dints (List.replicate ms.length 0)))) :
    VvC K l ρ (fun vs H Q => ∃ x y, vs = [x, y] ∧ rRepA K x y H Q)
      [.tup [.int 0], .int ((dints ms).length : Int)] m Φ := by
  have h3 := hM.2.1
  refine v_repT (by omega) (by rw [dints_length]; omega) (by simp) ?_
  rw [Int.toNat_natCast, List.flatten_replicate_singleton, dints_length, ← dints_rep]
  exact q
end
theorem PlP.num {ms : List Int} {n a : Nat} {S : List (List Int)}
    (h : PlP ms n a S) (hM : MsP ms) (hn : n ≤ 17) : Num 3 1700 (dplace a S) :=
  num_place hM hn h.lt h.len h.tie
section
variable {Ψ : Nat → D → Prop} {m : Nat}
theorem g_of {c : D} {xs : List D} (hm : m < 10000000) (hc : c.items = some xs)
    (hx : xs ≠ []) (hl : xs.length < 1000000)
    (h : ∀ (m2 : Nat) d, m2 ≤ m + 1 → d ∈ xs → Ψ m2 d) :
    preOf m [c] ∧ ∀ m2 d, psiOf [c] m m2 d → Ψ m2 d := by
  refine ⟨⟨hm, c, xs, rfl, hc, hx, hl⟩, fun m2 d q => ?_⟩
  obtain ⟨h1, c2, ys, e, h2, h3⟩ := q
  cases (List.cons.inj e).1
  rw [hc] at h2
  cases h2
  exact h m2 d h1 h3
end

theorem less_neg {ms x y : List Int} (hM : MsP ms) (hx : TieP ms x)
    (hy : TieP ms y) : lessF ms (List.replicate ms.length 0) (lessF ms x y) =
      lessF ms y x := by
  have h1 := hx.1
  have h2 := hy.1
  have h3 := (less_tie hM hx hy).1
  have h0 : (List.replicate ms.length (0 : Int)).length = ms.length := by simp
  refine ext_of_get ?_ fun c a b e1 e2 => ?_
  · rw [(less_tie hM (rep_tie hM) (less_tie hM hx hy)).1, (less_tie hM hy hx).1]
  · have hl := (less_tie hM hy hx).1
    obtain ⟨m, em⟩ := get_of_len (ys := ms) (by omega) e2
    obtain ⟨p, ep⟩ := get_of_len (ys := x) (by omega) em
    obtain ⟨q, eq⟩ := get_of_len (ys := y) (by omega) em
    have e0 : (List.replicate ms.length (0 : Int))[c]? = some 0 := by
      rw [List.getElem?_replicate, if_pos (List.getElem?_eq_some_iff.mp em).1]
    have e3 : (lessF ms x y)[c]? = some ((p - q) % m) := z3_get ep eq em
    rw [show (lessF ms (List.replicate ms.length 0) (lessF ms x y))[c]? = some ((0 - (p - q) % m) % m) from z3_get e0 e3 em] at e1
    rw [show (lessF ms y x)[c]? = some ((q - p) % m) from z3_get eq ep em] at e2
    cases e1
    cases e2
    rw [Int.sub_emod, Int.emod_emod, ← Int.sub_emod]
    congr 1
    omega
def preStem (C : Addr) (ds : List D) : Prop := ∃ ms hs, ds = [frD C ms hs]
def fStem : List D → D
  | [.ins _ _ [_, .tup hs]] => .int hs.length
  | _ => .non
theorem pStem {C : Addr} {ms hs : List Int} : preStem C [frD C ms hs] :=
  ⟨ms, hs, rfl⟩
theorem fStem_is (C : Addr) (ms hs : List Int) :
    fStem [frD C ms hs] = .int hs.length := by
  show D.int ((dints hs).length : Int) = _
  rw [dints_length]
def utab : D → List (List (List Int))
  | .tup rs => rs.map usays
  | _ => []
theorem utab_dtab (T : List (List (List Int))) : utab (dtab T) = T := by
  rw [dtab, utab, List.map_map]
  conv => rhs; rw [← List.map_id T]
  apply List.map_congr_left
  intro r _
  exact usays_dsays r
abbrev Spot := Nat × List (List Int)
abbrev dspot (p : Spot) : D := dplace p.1 p.2
def uspot : D → Spot
  | .tup [.int a, s] => (a.toNat, usays s)
  | _ => (0, [])
theorem uspot_dspot (p : Spot) : uspot (dspot p) = p := by
  show ((p.1 : Int).toNat, usays (dsays p.2)) = p
  rw [usays_dsays, Int.toNat_natCast]
def LotP (ms : List Int) (n : Nat) (L : List Spot) : Prop := L.length = n ∧
  ∀ (i : Nat) p, L[i]? = some p → p.1 = i ∧ PlP ms n i p.2
abbrev zt (ms : List Int) : List Int := List.replicate ms.length 0
def standP (ms : List Int) (T : List (List (List Int))) : List Spot :=
  T.mapIdx fun i r => (i, r ++ List.replicate (T.length - i) (zt ms))
def sayAt (L : List Spot) (i j : Nat) : List Int :=
  ((L.getD i (0, [])).2).getD j []
theorem LotP.at {ms : List Int} {n i : Nat} {L : List Spot} (h : LotP ms n L)
    (hi : i < n) : ∃ S, L[i]? = some (i, S) ∧ PlP ms n i S := by
  have hl := h.1
  obtain ⟨p, hp⟩ : ∃ p, L[i]? = some p := ⟨L[i]'(by omega), List.getElem?_eq_getElem _⟩
  obtain ⟨e, h2⟩ := h.2 i p hp
  refine ⟨p.2, ?_, h2⟩
  rw [hp, ← e]
theorem sayAt_of {L : List Spot} {i j a : Nat} {S : List (List Int)} {t : List Int}
    (h1 : L[i]? = some (a, S)) (h2 : S[j]? = some t) : sayAt L i j = t := by
  have e : L.getD i (0, []) = (a, S) := by
    rw [List.getD_eq_getElem?_getD, h1]; rfl
  unfold sayAt
  rw [e]
  exact getD_of h2
theorem less_zero {ms x : List Int} (hM : MsP ms) (hx : TieP ms x) :
    lessF ms x (zt ms) = x := by
  have h1 := hx.1
  refine ext_of_get (by rw [(less_tie hM hx (rep_tie hM)).1, h1]) fun c a b e1 e2 => ?_
  obtain ⟨m, em⟩ := get_of_len (ys := ms) (by omega) e2
  have e0 : (zt ms)[c]? = some 0 := by
    rw [List.getElem?_replicate, if_pos (List.getElem?_eq_some_iff.mp em).1]
  rw [show (lessF ms x (zt ms))[c]? = some ((b - 0) % m) from z3_get e2 e0 em] at e1
  cases e1
  have := hx.2 c m b em e2
  rw [Int.sub_zero]
  exact Int.emod_eq_of_lt this.1 this.2
theorem stand_get {ms : List Int} {T : List (List (List Int))} {i : Nat}
    {r : List (List Int)} (h : T[i]? = some r) :
    (standP ms T)[i]? = some (i, r ++ List.replicate (T.length - i) (zt ms)) := by
  unfold standP
  rw [List.getElem?_mapIdx, h]; rfl
theorem stand_less {ms : List Int} {T : List (List (List Int))} {i j : Nat}
    {r : List (List Int)} {t : List Int} (h : T[i]? = some r)
    (hj : r[j]? = some t) : sayAt (standP ms T) i j = t :=
  sayAt_of (stand_get h) (by
    rw [List.getElem?_append_left (List.getElem?_eq_some_iff.mp hj).1]; exact hj)
theorem stand_more {ms : List Int} {n : Nat} {T : List (List (List Int))}
    {i j : Nat} (h : TabP ms n T) (hi : i < n) (hij : i ≤ j) (hj : j < n) :
    sayAt (standP ms T) i j = zt ms := by
  have hl := h.1
  obtain ⟨r, hr⟩ : ∃ r, T[i]? = some r := ⟨T[i]'(by omega), List.getElem?_eq_getElem _⟩
  have h1 := (h.2 i r hr).1
  refine sayAt_of (stand_get hr) ?_
  rw [List.getElem?_append_right (by omega), List.getElem?_replicate, if_pos (by omega)]
theorem LotP.all {ms : List Int} {n : Nat} {L : List Spot} (h : LotP ms n L) :
    ∀ p ∈ L, PlP ms n p.1 p.2 := by
  intro p hp
  obtain ⟨i, hi⟩ := List.getElem?_of_mem hp
  obtain ⟨e, h2⟩ := h.2 i p hi
  rw [e]; exact h2

def tt (T : List (List (List Int))) (i j : Nat) : List Int :=
  (T.getD i []).getD j []
def tabT (T : List (List (List Int))) (i j : Nat) : List Int :=
  if j < i then tt T i j else tt T j i
def webT (ms : List Int) (T : List (List (List Int))) (i j : Nat) : List Int :=
  if j < i then tt T i j else negF ms (tt T j i)
theorem tt_of {T : List (List (List Int))} {i j : Nat} {r : List (List Int)}
    {t : List Int} (h1 : T[i]? = some r) (h2 : r[j]? = some t) : tt T i j = t := by
  have e : T.getD i [] = r := by rw [List.getD_eq_getElem?_getD, h1]; rfl
  unfold tt
  rw [e]
  exact getD_of h2
theorem tt_tie {ms : List Int} {n : Nat} {T : List (List (List Int))} {i j : Nat}
    (h : TabP ms n T) (hi : i < n) (hj : j < i) : TieP ms (tt T i j) := by
  obtain ⟨r, t, e1, e2, h3⟩ := h.at hi hj
  rw [tt_of e1 e2]; exact h3
theorem tabT_tie {ms : List Int} {n : Nat} {T : List (List (List Int))} {i j : Nat}
    (h : TabP ms n T) (hi : i < n) (hj : j < n) (hij : i ≠ j) : TieP ms (tabT T i j) := by
  unfold tabT
  split
  · exact tt_tie h hi (by omega)
  · exact tt_tie h hj (by omega)
theorem tabT_comm (T : List (List (List Int))) (i j : Nat) (h : i ≠ j) :
    tabT T i j = tabT T j i := by
  unfold tabT
  by_cases e : j < i
  · rw [if_pos e, if_neg (by omega)]
  · rw [if_neg e, if_pos (by omega)]
theorem tab_sub {ms : List Int} {n : Nat} {T : List (List (List Int))} {i j : Nat}
    (h : TabP ms n T) (hi : i < n) (hj : j < n) (hij : i ≠ j) :
    ∃ r, dsub (dtab T) (mxI i j).toNat = some r ∧
      dsub r (mnI i j).toNat = some (.tup (dints (tabT T i j))) := by
  by_cases e : j < i
  · obtain ⟨r, t, e1, e2, h3⟩ := h.at hi e
    refine ⟨.tup (r.map fun t => .tup (dints t)), ?_, ?_⟩
    · rw [show mxI i j = i by unfold mxI; split <;> omega, Int.toNat_natCast]
      exact dtab_sub e1
    · rw [show mnI i j = j by unfold mnI; split <;> omega, Int.toNat_natCast, tabT,
        if_pos e, tt_of e1 e2]
      exact drow_sub e2
  · obtain ⟨r, t, e1, e2, h3⟩ := h.at hj (j := i) (by omega)
    refine ⟨.tup (r.map fun t => .tup (dints t)), ?_, ?_⟩
    · rw [show mxI i j = j by unfold mxI; split <;> omega, Int.toNat_natCast]
      exact dtab_sub e1
    · rw [show mnI i j = i by unfold mnI; split <;> omega, Int.toNat_natCast, tabT,
        if_neg e, tt_of e1 e2]
      exact drow_sub e2
theorem pTab {ms : List Int} {n : Nat} {T : List (List (List Int))} {i j : Nat}
    (h : TabP ms n T) (hi : i < n) (hj : j < n) (hij : i ≠ j) :
    preTab [dtab T, .int i, .int j] := by
  obtain ⟨r, h1, h2⟩ := tab_sub h hi hj hij
  exact ⟨_, _, _, r, _, rfl, by omega, by omega, h1, h2⟩
theorem tabAt_is {ms : List Int} {n : Nat} {T : List (List (List Int))} {i j : Nat}
    (h : TabP ms n T) (hi : i < n) (hj : j < n) (hij : i ≠ j) :
    tabAt (dtab T) i j = .tup (dints (tabT T i j)) := by
  obtain ⟨r, h1, h2⟩ := tab_sub h hi hj hij
  unfold tabAt
  rw [h1]
  show (dsub r (mnI i j).toNat).getD .non = _
  rw [h2]
  rfl
theorem fTab_is {ms : List Int} {n : Nat} {T : List (List (List Int))} {i j : Nat}
    (h : TabP ms n T) (hi : i < n) (hj : j < n) (hij : i ≠ j) :
    fTab [dtab T, .int i, .int j] = .tup (dints (tabT T i j)) := tabAt_is h hi hj hij
theorem stand_web {ms : List Int} {n : Nat} {T : List (List (List Int))} {i j : Nat}
    (hM : MsP ms) (h : TabP ms n T) (hi : i < n) (hj : j < n) (hij : i ≠ j) :
    lessF ms (sayAt (standP ms T) i j) (sayAt (standP ms T) j i) = webT ms T i j := by
  unfold webT
  by_cases e : j < i
  · obtain ⟨r, t, e1, e2, h3⟩ := h.at hi e
    rw [if_pos e, stand_less e1 e2, stand_more h hj (by omega) hi, tt_of e1 e2]
    exact less_zero hM h3
  · obtain ⟨r, t, e1, e2, h3⟩ := h.at hj (j := i) (by omega)
    rw [if_neg e, stand_less e1 e2, stand_more h hi (by omega) hj, tt_of e1 e2]
    rfl

def constT (t : List Int) (n : Nat) : List (List (List Int)) :=
  (List.range n).map fun i => List.replicate i t
theorem const_tab {ms t : List Int} (h : TieP ms t) (n : Nat) :
    TabP ms n (constT t n) := by
  refine ⟨by simp [constT], fun i r e => ?_⟩
  unfold constT at e
  rw [List.getElem?_map] at e
  rcases Nat.lt_or_ge i n with z | z
  · rw [List.getElem?_range z] at e
    cases e
    exact ⟨by simp, fun u hu => by rw [List.eq_of_mem_replicate hu]; exact h⟩
  · rw [List.getElem?_eq_none (by simpa using z)] at e
    cases e

theorem tget {ms x : List Int} {c : Nat} {m : Int} (h : TieP ms x)
    (hm : ms[c]? = some m) : ∃ a, x[c]? = some a ∧ 0 ≤ a ∧ a < m := by
  obtain ⟨a, ea⟩ := get_of_len (ys := x) (by rw [h.1]; exact Nat.le_refl _) hm
  exact ⟨a, ea, h.2 c m a hm ea⟩
theorem tie_ext {ms x y : List Int} (hx : x.length = ms.length)
    (hy : y.length = ms.length)
    (h : ∀ (c : Nat) m, ms[c]? = some m → x[c]? = y[c]?) : x = y := by
  refine ext_of_get (by omega) fun c a b e1 e2 => ?_
  obtain ⟨m, em⟩ := get_of_len (ys := ms) (by omega) e1
  have := h c m em
  rw [e1, e2] at this
  exact Option.some.inj this
theorem sum_get {ms x y : List Int} {c : Nat} {m a b : Int}
    (em : ms[c]? = some m) (ea : x[c]? = some a) (eb : y[c]? = some b) :
    (sumF ms x y)[c]? = some ((a + b) % m) := z3_get ea eb em
theorem less_get {ms x y : List Int} {c : Nat} {m a b : Int}
    (em : ms[c]? = some m) (ea : x[c]? = some a) (eb : y[c]? = some b) :
    (lessF ms x y)[c]? = some ((a - b) % m) := z3_get ea eb em
theorem zt_get {ms : List Int} {c : Nat} {m : Int} (em : ms[c]? = some m) :
    (zt ms)[c]? = some 0 := by
  rw [List.getElem?_replicate, if_pos (List.getElem?_eq_some_iff.mp em).1]
theorem less_cancel {ms x y t : List Int} (hM : MsP ms) (hx : TieP ms x)
    (hy : TieP ms y) (ht : TieP ms t) :
    lessF ms (sumF ms x t) (sumF ms y t) = lessF ms x y := by
  refine tie_ext (less_tie hM (sum_tie hM hx ht) (sum_tie hM hy ht)).1
    (less_tie hM hx hy).1 fun c m em => ?_
  obtain ⟨a, ea, _⟩ := tget hx em
  obtain ⟨b, eb, _⟩ := tget hy em
  obtain ⟨d, ed, _⟩ := tget ht em
  rw [less_get em (sum_get em ea ed) (sum_get em eb ed), less_get em ea eb,
    ← Int.sub_emod]
  congr 2
  omega
theorem less_self_eq {ms x y : List Int} (hx : TieP ms x) (hy : TieP ms y)
    (h : ∀ (c : Nat) m a b, ms[c]? = some m → x[c]? = some a → y[c]? = some b →
      (a - b) % m = 0) : x = y := by
  refine tie_ext hx.1 hy.1 fun c m em => ?_
  obtain ⟨a, ea, a1, a2⟩ := tget hx em
  obtain ⟨b, eb, b1, b2⟩ := tget hy em
  have := h c m a b em ea eb
  rw [ea, eb]
  congr 1
  rcases Int.le_total b a with z | z
  · rw [Int.emod_eq_of_lt (by omega) (by omega)] at this
    omega
  · rw [← Int.add_emod_right] at this
    rcases Int.lt_or_eq_of_le z with z2 | z2
    · rw [Int.emod_eq_of_lt (by omega) (by omega)] at this
      omega
    · exact z2
theorem sum_cancel {ms x y t : List Int} (hM : MsP ms) (hx : TieP ms x)
    (hy : TieP ms y) (ht : TieP ms t) (h : sumF ms x t = sumF ms y t) : x = y := by
  refine less_self_eq hx hy fun c m a b em ea eb => ?_
  obtain ⟨d, ed, _⟩ := tget ht em
  have e1 := sum_get em ea ed
  have e2 := sum_get em eb ed
  rw [h] at e1
  have e3 := Option.some.inj (e1.symm.trans e2)
  rw [show a - b = (a + d) - (b + d) by omega, Int.sub_emod, e3, Int.sub_self]
  rfl
theorem sum_zero {ms x : List Int} (hM : MsP ms) (hx : TieP ms x) :
    sumF ms x (zt ms) = x := by
  refine tie_ext (sum_tie hM hx (rep_tie hM)).1 hx.1 fun c m em => ?_
  obtain ⟨a, ea, a1, a2⟩ := tget hx em
  rw [sum_get em ea (zt_get em), ea, Int.add_zero, Int.emod_eq_of_lt a1 a2]
abbrev dnats (L : List Nat) : List D := L.map fun (i : Nat) => D.int (i : Int)
def unats (xs : List D) : List Nat := (uints xs).map Int.toNat
theorem unats_dnats (L : List Nat) : unats (dnats L) = L := by
  have : dnats L = dints (L.map fun (i : Nat) => (i : Int)) := by
    rw [dints, List.map_map]; rfl
  rw [this, unats, uints_dints, List.map_map]
  conv => rhs; rw [← List.map_id L]
  apply List.map_congr_left
  intro i _
  show ((i : Int)).toNat = i
  omega
structure LeadP (hs : List Int) (L : List Nat) : Prop where
  len : L.length = hs.length
  nd : L.Nodup
  hue : ∀ (x y : Nat), L[x]? = some y → y < hs.length ∧ hs[y]? = hs[x]?
theorem nodup_len : ∀ (L M : List Nat), L.Nodup → (∀ x ∈ L, x ∈ M) →
    L.length ≤ M.length
  | [], _, _, _ => Nat.zero_le _
  | x :: L, M, hn, hs => by
    rw [List.nodup_cons] at hn
    have hx := hs x List.mem_cons_self
    have := nodup_len L (M.erase x) hn.2 fun y hy =>
      (List.mem_erase_of_ne (fun (e : y = x) => hn.1 (e ▸ hy))).mpr
        (hs y (List.mem_cons_of_mem _ hy))
    rw [List.length_erase_of_mem hx] at this
    have := List.length_pos_of_mem hx
    simp only [List.length_cons]
    omega
theorem LeadP.surj {hs : List Int} {L : List Nat} (h : LeadP hs L) {c : Nat}
    (hc : c < hs.length) : ∃ b, b < hs.length ∧ L[b]? = some c := by
  have hm : c ∈ L := by
    refine Classical.byContradiction fun hn => ?_
    have := nodup_len (c :: L) (List.range hs.length)
      (List.nodup_cons.mpr ⟨hn, h.nd⟩) fun x hx => by
        rw [List.mem_range]
        rcases List.mem_cons.mp hx with rfl | hx
        · exact hc
        · obtain ⟨i, hi⟩ := List.getElem?_of_mem hx
          exact (h.hue i x hi).1
    rw [List.length_cons, List.length_range, h.len] at this
    omega
  obtain ⟨b, hb⟩ := List.getElem?_of_mem hm
  have := (List.getElem?_eq_some_iff.mp hb).1
  exact ⟨b, by rw [← h.len]; exact this, hb⟩
theorem LeadP.at {hs : List Int} {L : List Nat} (h : LeadP hs L) {b : Nat}
    (hb : b < hs.length) : ∃ c, L[b]? = some c ∧ c < hs.length := by
  have hl := h.len
  obtain ⟨c, hc⟩ : ∃ c, L[b]? = some c := ⟨L[b]'(by omega), List.getElem?_eq_getElem _⟩
  exact ⟨c, hc, (h.hue b c hc).1⟩
theorem LeadP.inj {hs : List Int} {L : List Nat} (h : LeadP hs L) {a b c : Nat}
    (ha : L[a]? = some c) (hb : L[b]? = some c) : a = b :=
  (List.getElem?_inj (List.getElem?_eq_some_iff.mp ha).1 h.nd).mp (ha.trans hb.symm)
theorem dnats_get {L : List Nat} {b c : Nat} (h : L[b]? = some c) :
    (dnats L)[b]? = some (.int (c : Int)) := by
  rw [List.getElem?_map, h]; rfl
theorem natD_of {L : List Nat} {b c : Nat} (h : L[b]? = some c) : L.getD b 0 = c := by
  rw [List.getD_eq_getElem?_getD, h]; rfl
abbrev Turn := List Nat × List (List (List Int))
abbrev dturn (t : Turn) : D := .tup [.tup (dnats t.1), dtab t.2]
def uturn : D → Turn
  | .tup [.tup xs, t] => (unats xs, utab t)
  | _ => ([], [])
theorem uturn_dturn (t : Turn) : uturn (dturn t) = t := by
  show (unats (dnats t.1), utab (dtab t.2)) = t
  rw [unats_dnats, utab_dtab]
theorem dturn_inj {t u : Turn} (h : dturn t = dturn u) : t = u := by
  have := congrArg uturn h
  rwa [uturn_dturn, uturn_dturn] at this
structure TurnP (ms hs : List Int) (t : Turn) : Prop where
  lead : LeadP hs t.1
  tab : TabP ms hs.length t.2
def ledF (ms : List Int) (L : List Nat) (T : List (List (List Int))) (a : Nat)
    (S : List (List Int)) (i : Nat) : List (List Int) :=
  (List.range i).foldl (fun acc b => if b = a then acc else
    acc.set (L.getD b 0) (sumF ms (S.getD b []) (tabT T a b)))
    (List.replicate L.length (zt ms))
def ledP (ms : List Int) (t : Turn) (p : Spot) : Spot :=
  (t.1.getD p.1 0, ledF ms t.1 t.2 p.1 p.2 p.2.length)
theorem ledF_succ (ms : List Int) (L : List Nat) (T : List (List (List Int)))
    (a : Nat) (S : List (List Int)) (i : Nat) : ledF ms L T a S (i + 1) =
      if i = a then ledF ms L T a S i else (ledF ms L T a S i).set (L.getD i 0)
        (sumF ms (S.getD i []) (tabT T a i)) := by
  unfold ledF
  rw [List.range_succ, List.foldl_append]
  rfl
theorem ledF_len (ms : List Int) (L : List Nat) (T : List (List (List Int)))
    (a : Nat) (S : List (List Int)) (i : Nat) :
    (ledF ms L T a S i).length = L.length := by
  induction i with
  | zero => simp [ledF]
  | succ i ih =>
    rw [ledF_succ]
    split
    · exact ih
    · rw [List.length_set]; exact ih
theorem ledF_get {ms hs : List Int} {L : List Nat} {T : List (List (List Int))}
    {a : Nat} {S : List (List Int)} (hL : LeadP hs L) : ∀ (i : Nat), i ≤ hs.length →
    ∀ b c, L[b]? = some c → (ledF ms L T a S i)[c]? = some (if b < i ∧ b ≠ a then
      sumF ms (S.getD b []) (tabT T a b) else zt ms)
  | 0, _, b, c, hb => by
    have := (hL.hue b c hb).1
    have hl := hL.len
    show (List.replicate L.length (zt ms))[c]? = _
    rw [List.getElem?_replicate, if_pos (by omega), if_neg (by omega)]
  | i + 1, hi, b, c, hb => by
    have ih := ledF_get (ms := ms) (T := T) (a := a) (S := S) hL i (by omega)
    obtain ⟨d, hd, hd2⟩ := hL.at (b := i) (by omega)
    rw [ledF_succ]
    by_cases e : i = a
    · rw [if_pos e, ih b c hb]
      by_cases eb : b < i ∧ b ≠ a
      · rw [if_pos eb, if_pos (by omega)]
      · rw [if_neg eb, if_neg (by omega)]
    · rw [if_neg e, natD_of hd]
      by_cases eb : b = i
      · subst eb
        rw [hd] at hb
        cases hb
        rw [List.getElem?_set_self (by rw [ledF_len, hL.len]; exact hd2),
          if_pos ⟨by omega, e⟩]
      · have hcd : d ≠ c := fun z => eb (by subst z; exact hL.inj hb hd)
        rw [List.getElem?_set_ne hcd, ih b c hb]
        by_cases eb2 : b < i ∧ b ≠ a
        · rw [if_pos eb2, if_pos (by omega)]
        · rw [if_neg eb2, if_neg (by omega)]
theorem led_get {ms hs : List Int} {t : Turn} {a b c : Nat} {S : List (List Int)}
    (ht : TurnP ms hs t) (hS : PlP ms hs.length a S) (hb : t.1[b]? = some c) :
    (ledP ms t (a, S)).2[c]? = some (if b = a then zt ms else
      sumF ms (S.getD b []) (tabT t.2 a b)) := by
  show (ledF ms t.1 t.2 a S S.length)[c]? = _
  have hl := hS.len
  have hl2 := ht.lead.len
  have hb2 := (List.getElem?_eq_some_iff.mp hb).1
  rw [ledF_get ht.lead S.length (by omega) b c hb]
  by_cases e : b = a
  · rw [if_neg (by omega), if_pos e]
  · rw [if_pos ⟨by omega, e⟩, if_neg e]
theorem led_place {ms hs : List Int} {t : Turn} {p : Spot} (hM : MsP ms)
    (ht : TurnP ms hs t) (hS : PlP ms hs.length p.1 p.2) :
    PlP ms hs.length (ledP ms t p).1 (ledP ms t p).2 := by
  obtain ⟨a, S⟩ := p
  obtain ⟨c, hc, hc2⟩ := ht.lead.at hS.lt
  have e1 : (ledP ms t (a, S)).1 = c := natD_of hc
  rw [e1]
  refine ⟨hc2, ?_, fun x hx => ?_, ?_⟩
  · show (ledF ms t.1 t.2 a S S.length).length = _
    rw [ledF_len, ht.lead.len]
  · obtain ⟨d, hd⟩ := List.getElem?_of_mem hx
    have hd2 : d < hs.length := by
      have := (List.getElem?_eq_some_iff.mp hd).1
      rw [← ht.lead.len, ← ledF_len ms t.1 t.2 a S S.length]
      exact this
    obtain ⟨b, hb, hb2⟩ := ht.lead.surj hd2
    rw [led_get ht hS hb2] at hd
    cases hd
    split
    · exact rep_tie hM
    · obtain ⟨y, ey⟩ := says_get hS.len hb
      rw [getD_of ey]
      exact sum_tie hM (hS.tie y (List.mem_of_getElem? ey)) (tabT_tie ht.tab hS.lt hb (by omega))
  · rw [led_get ht hS hc, if_pos rfl]
theorem led_says {ms hs : List Int} {t : Turn} {p : Spot} {b c : Nat}
    (ht : TurnP ms hs t) (hS : PlP ms hs.length p.1 p.2) (hb : t.1[b]? = some c)
    (hn : b ≠ p.1) : (ledP ms t p).2.getD c [] =
      sumF ms (p.2.getD b []) (tabT t.2 p.1 b) := by
  obtain ⟨a, S⟩ := p
  refine getD_of ?_
  rw [led_get ht hS hb, if_neg hn]
theorem led_tie {ms hs : List Int} {t : Turn} {p q : Spot} {c d : Nat} (hM : MsP ms)
    (ht : TurnP ms hs t) (hp : PlP ms hs.length p.1 p.2) (hq : PlP ms hs.length q.1 q.2)
    (hn : p.1 ≠ q.1) (hc : t.1[p.1]? = some c) (hd : t.1[q.1]? = some d) :
    lessF ms ((ledP ms t p).2.getD d []) ((ledP ms t q).2.getD c []) =
      lessF ms (p.2.getD q.1 []) (q.2.getD p.1 []) := by
  rw [led_says ht hp hd (Ne.symm hn), led_says ht hq hc hn, tabT_comm _ _ _ (Ne.symm hn)]
  obtain ⟨x, ex⟩ := says_get hp.len hq.lt
  obtain ⟨y, ey⟩ := says_get hq.len hp.lt
  rw [getD_of ex, getD_of ey]
  exact less_cancel hM (hp.tie x (List.mem_of_getElem? ex))
    (hq.tie y (List.mem_of_getElem? ey)) (tabT_tie ht.tab hp.lt hq.lt hn)
theorem led_stem {ms hs : List Int} {t : Turn} {p q : Spot}
    (ht : TurnP ms hs t) (hp : PlP ms hs.length p.1 p.2) (hq : PlP ms hs.length q.1 q.2) :
    ((ledP ms t p).1 = (ledP ms t q).1) ↔ p.1 = q.1 := by
  obtain ⟨c, hc, _⟩ := ht.lead.at hp.lt
  obtain ⟨d, hd, _⟩ := ht.lead.at hq.lt
  rw [show (ledP ms t p).1 = c from natD_of hc, show (ledP ms t q).1 = d from natD_of hd]
  constructor
  · intro e
    subst e
    exact ht.lead.inj hc hd
  · intro e
    rw [e, hd] at hc
    exact (Option.some.inj hc).symm
theorem led_inj {ms hs : List Int} {t : Turn} {p q : Spot} (hM : MsP ms)
    (ht : TurnP ms hs t) (hp : PlP ms hs.length p.1 p.2) (hq : PlP ms hs.length q.1 q.2)
    (h : ledP ms t p = ledP ms t q) : p = q := by
  have e1 := (led_stem ht hp hq).mp (by rw [h])
  obtain ⟨a, S⟩ := p
  obtain ⟨b, U⟩ := q
  simp only at e1 hp hq
  subst e1
  congr 1
  refine ext_of_get (by rw [hp.len, hq.len]) fun c x y ex ey => ?_
  have hc : c < hs.length := by
    have := (List.getElem?_eq_some_iff.mp ex).1
    rw [hp.len] at this
    exact this
  by_cases e : c = a
  · subst e
    have h1 := hp.own
    have h2 := hq.own
    rw [ex] at h1
    rw [ey] at h2
    exact (Option.some.inj h1).trans (Option.some.inj h2).symm
  · obtain ⟨d, hd, _⟩ := ht.lead.at hc
    have h1 := led_says (p := (a, S)) ht hp hd e
    have h2 := led_says (p := (a, U)) ht hq hd e
    rw [h] at h1
    have h3 := h1.symm.trans h2
    simp only [getD_of ex, getD_of ey] at h3
    exact sum_cancel hM (hp.tie x (List.mem_of_getElem? ex)) (hq.tie y (List.mem_of_getElem? ey))
      (tabT_tie ht.tab hp.lt hc (Ne.symm e)) h3
def stillT (ms : List Int) (n : Nat) : Turn := (List.range n, constT (zt ms) n)
theorem lead_still (hs : List Int) : LeadP hs (List.range hs.length) := by
  refine ⟨by simp, List.nodup_range, fun x y h => ?_⟩
  have hx := (List.getElem?_eq_some_iff.mp h).1
  rw [List.length_range] at hx
  rw [List.getElem?_range hx] at h
  cases h
  exact ⟨hx, rfl⟩
theorem still_turn {ms hs : List Int} (hM : MsP ms) : TurnP ms hs (stillT ms hs.length) :=
  ⟨lead_still hs, const_tab (rep_tie hM) _⟩
theorem const_tt {t : List Int} {n i j : Nat} (hi : i < n) (hj : j < i) :
    tt (constT t n) i j = t := by
  refine tt_of (r := List.replicate i t) ?_ ?_
  · unfold constT
    rw [List.getElem?_map, List.getElem?_range hi]
    rfl
  · rw [List.getElem?_replicate, if_pos hj]
theorem const_tabT {t : List Int} {n i j : Nat} (hi : i < n) (hj : j < n) (hij : i ≠ j) :
    tabT (constT t n) i j = t := by
  unfold tabT
  split
  · exact const_tt hi (by omega)
  · exact const_tt hj (by omega)
theorem still_led {ms hs : List Int} {p : Spot} (hM : MsP ms)
    (hp : PlP ms hs.length p.1 p.2) : ledP ms (stillT ms hs.length) p = p := by
  obtain ⟨a, S⟩ := p
  have ht := still_turn (hs := hs) hM
  have hlt := hp.lt
  simp only at hlt hp
  have e1 : (ledP ms (stillT ms hs.length) (a, S)).1 = a :=
    natD_of (List.getElem?_range hlt)
  have hP := led_place (p := (a, S)) hM ht hp
  refine Prod.ext e1 ?_
  refine ext_of_get (by rw [hP.len, hp.len]) fun c x y ex ey => ?_
  have hc : c < hs.length := by
    have := (List.getElem?_eq_some_iff.mp ey).1
    rw [hp.len] at this
    exact this
  rw [led_get ht hp (b := c) (List.getElem?_range hc)] at ex
  cases ex
  by_cases e : c = a
  · subst e
    rw [if_pos rfl]
    exact (Option.some.inj (ey.symm.trans hp.own)).symm
  · rw [if_neg e, getD_of ey]
    show sumF ms y (tabT (constT (zt ms) hs.length) a c) = y
    rw [const_tabT hlt hc (Ne.symm e)]
    exact sum_zero hM (hp.tie y (List.mem_of_getElem? ey))

def preAt (ds : List D) : Prop := ∃ (ms : List Int) (n : Nat) (T : List (List (List Int)))
  (i j : Nat), ds = [dtab T, .int i, .int j] ∧ TabP ms n T ∧ i < n ∧ j < n ∧ i ≠ j
def fAt : List D → D
  | [t, .int i, .int j] => .tup (dints (tabT (utab t) i.toNat j.toNat))
  | _ => .non
theorem fAt_is (T : List (List (List Int))) (i j : Nat) :
    fAt [dtab T, .int i, .int j] = .tup (dints (tabT T i j)) := by
  show D.tup (dints (tabT (utab (dtab T)) (i : Int).toNat (j : Int).toNat)) = _
  rw [utab_dtab, Int.toNat_natCast, Int.toNat_natCast]
def preLe (ds : List D) : Prop := ∃ ms hs t p, ds = [.tup (dints ms), dturn t, dspot p] ∧
  MsP ms ∧ hs.length ≤ 16 ∧ TurnP ms hs t ∧ PlP ms hs.length p.1 p.2
def fLe : List D → D
  | [.tup ms, t, p] => dspot (ledP (uints ms) (uturn t) (uspot p))
  | _ => .non
theorem fLe_is (ms : List Int) (t : Turn) (p : Spot) :
    fLe [.tup (dints ms), dturn t, dspot p] = dspot (ledP ms t p) := by
  show dspot (ledP (uints (dints ms)) (uturn (dturn t)) (uspot (dspot p))) = _
  rw [uints_dints, uturn_dturn, uspot_dspot]
def preLp (C : Addr) (ds : List D) : Prop := ∃ ms hs t p,
  ds = [frD C ms hs, dturn t, dspot p] ∧
  MsP ms ∧ hs.length ≤ 16 ∧ TurnP ms hs t ∧ PlP ms hs.length p.1 p.2
def fLp : List D → D
  | [.ins _ _ [.tup ms, _], t, p] => dspot (ledP (uints ms) (uturn t) (uspot p))
  | _ => .non
theorem fLp_is (C : Addr) (ms hs : List Int) (t : Turn) (p : Spot) :
    fLp [frD C ms hs, dturn t, dspot p] = dspot (ledP ms t p) := by
  show dspot (ledP (uints (dints ms)) (uturn (dturn t)) (uspot (dspot p))) = _
  rw [uints_dints, uturn_dturn, uspot_dspot]
def preFr (C : Addr) (ds : List D) : Prop := ∃ ms hs, ds = [frD C ms hs] ∧ MsP ms ∧
  hs.length ≤ 16
def fEv : List D → D
  | [.ins _ _ [.tup ms, .tup hs]] => dtab (constT (zt (uints ms)) hs.length)
  | _ => .non
theorem fEv_is (C : Addr) (ms hs : List Int) :
    fEv [frD C ms hs] = dtab (constT (zt ms) hs.length) := by
  show dtab (constT (zt (uints (dints ms))) (dints hs).length) = _
  rw [uints_dints, dints_length]
def fSt : List D → D
  | [.ins _ _ [.tup ms, .tup hs]] => dturn (stillT (uints ms) hs.length)
  | _ => .non
theorem fSt_is (C : Addr) (ms hs : List Int) :
    fSt [frD C ms hs] = dturn (stillT ms hs.length) := by
  show dturn (stillT (uints (dints ms)) (dints hs).length) = _
  rw [uints_dints, dints_length]
def preLs (ds : List D) : Prop := ∃ ms, ∃ n : Nat, ds = [.tup (dints ms), .int n] ∧ MsP ms ∧ n ≤ 16
def fLs : List D → D
  | [.tup ms, .int n] => dturn (stillT (uints ms) n.toNat)
  | _ => .non
theorem fLs_is (ms : List Int) (n : Nat) :
    fLs [.tup (dints ms), .int n] = dturn (stillT ms n) := by
  show dturn (stillT (uints (dints ms)) (n : Int).toNat) = _
  rw [uints_dints, Int.toNat_natCast]
theorem const_dtab (t : List Int) (n : Nat) : dtab (constT t n) =
    .tup ((List.range n).map fun i => .tup (List.replicate i (.tup (dints t)))) := by
  show D.tup (((List.range n).map fun i => List.replicate i t).map _) = _
  rw [List.map_map]
  congr 1
  apply List.map_congr_left
  intro i _
  show D.tup ((List.replicate i t).map _) = _
  rw [List.map_replicate]
theorem num_nats {L : List Nat} (hl : L.length ≤ 16) (h : ∀ i ∈ L, i ≤ 16) :
    Num 1 256 (.tup (dnats L)) := by
  refine (Num.tup (k := 0) (w := 15) fun x hx => ?_).up (by omega) ?_
  · obtain ⟨i, hi, rfl⟩ := List.mem_map.mp hx
    have := h i hi
    exact num_int (by omega) (by omega)
  · rw [List.length_map]; omega
theorem TurnP.num {ms hs : List Int} {t : Turn} (h : TurnP ms hs t) (hM : MsP ms)
    (hn : hs.length ≤ 16) : Num 4 32002 (dturn t) := by
  have h1 : Num 1 256 (.tup (dnats t.1)) := num_nats (by rw [h.lead.len]; exact hn) fun i hi => by
    obtain ⟨x, hx⟩ := List.getElem?_of_mem hi
    have := (h.lead.hue x i hx).1
    omega
  have h2 := TabP.num hM hn h.tab
  refine (Num.tup (k := 3) (w := 16000) fun x hx => ?_).up (by omega) (by simp)
  simp only [List.mem_cons, List.not_mem_nil, or_false] at hx
  rcases hx with rfl | rfl
  · exact h1.up (by omega) (by omega)
  · exact h2
theorem dspot_inj {p q : Spot} (h : dspot p = dspot q) : p = q := by
  have := congrArg uspot h
  rwa [uspot_dspot, uspot_dspot] at this
theorem sum_assoc {ms x y z : List Int} (hM : MsP ms) (hx : TieP ms x)
    (hy : TieP ms y) (hz : TieP ms z) :
    sumF ms (sumF ms x y) z = sumF ms x (sumF ms y z) := by
  refine tie_ext (sum_tie hM (sum_tie hM hx hy) hz).1
    (sum_tie hM hx (sum_tie hM hy hz)).1 fun c m em => ?_
  obtain ⟨a, ea, _⟩ := tget hx em
  obtain ⟨b, eb, _⟩ := tget hy em
  obtain ⟨d, ed, _⟩ := tget hz em
  rw [sum_get em (sum_get em ea eb) ed, sum_get em ea (sum_get em eb ed)]
  congr 1
  rw [Int.add_emod, Int.emod_emod, ← Int.add_emod, Int.add_emod a, Int.emod_emod,
    ← Int.add_emod, Int.add_assoc]
theorem sum_neg {ms x : List Int} (hM : MsP ms) (hx : TieP ms x) :
    sumF ms x (negF ms x) = zt ms := by
  have hn := less_tie hM (rep_tie hM) hx
  refine tie_ext (sum_tie hM hx hn).1 (by simp) fun c m em => ?_
  obtain ⟨a, ea, _⟩ := tget hx em
  have e2 : (negF ms x)[c]? = some ((0 - a) % m) := less_get em (zt_get em) ea
  rw [sum_get em ea e2, zt_get em]
  congr 1
  rw [Int.add_emod, Int.emod_emod, ← Int.add_emod, show a + (0 - a) = 0 by omega]
  rfl
theorem sum_comm {ms x y : List Int} (hM : MsP ms) (hx : TieP ms x)
    (hy : TieP ms y) : sumF ms x y = sumF ms y x := by
  refine tie_ext (sum_tie hM hx hy).1 (sum_tie hM hy hx).1 fun c m em => ?_
  obtain ⟨a, ea, _⟩ := tget hx em
  obtain ⟨b, eb, _⟩ := tget hy em
  rw [sum_get em ea eb, sum_get em eb ea, Int.add_comm]
/-- a table by a function of greater and lesser stem -/
def mkT (n : Nat) (f : Nat → Nat → List Int) : List (List (List Int)) :=
  (List.range n).map fun i => (List.range i).map fun j => f i j
theorem mkT_row {n : Nat} {f : Nat → Nat → List Int} {i : Nat} (hi : i < n) :
    (mkT n f)[i]? = some ((List.range i).map fun j => f i j) := by
  unfold mkT
  rw [List.getElem?_map, List.getElem?_range hi]; rfl
theorem mkT_tt {n : Nat} {f : Nat → Nat → List Int} {i j : Nat} (hi : i < n)
    (hj : j < i) : tt (mkT n f) i j = f i j :=
  tt_of (mkT_row hi) (by rw [List.getElem?_map, List.getElem?_range hj]; rfl)
theorem tabT_gt {T : List (List (List Int))} {i j : Nat} (h : j < i) :
    tabT T i j = tt T i j := if_pos h
theorem tabT_le {T : List (List (List Int))} {i j : Nat} (h : ¬ j < i) :
    tabT T i j = tt T j i := if_neg h
theorem mkT_tab {ms : List Int} {n : Nat} {f : Nat → Nat → List Int}
    (h : ∀ i j, i < n → j < i → TieP ms (f i j)) : TabP ms n (mkT n f) := by
  refine ⟨by simp [mkT], fun i r e => ?_⟩
  have hi : i < n := by
    have := (List.getElem?_eq_some_iff.mp e).1
    simpa [mkT] using this
  rw [mkT_row hi] at e
  cases e
  refine ⟨by simp, fun t ht => ?_⟩
  obtain ⟨j, hj, rfl⟩ := List.mem_map.mp ht
  exact h i j hi (List.mem_range.mp hj)
theorem tab_ext {ms : List Int} {n : Nat} {T U : List (List (List Int))}
    (h : TabP ms n T) (h' : TabP ms n U)
    (e : ∀ i j, i < n → j < i → tt T i j = tt U i j) : T = U := by
  refine ext_of_get (by rw [h.1, h'.1]) fun i r r' e1 e2 => ?_
  have hi : i < n := by
    have := (List.getElem?_eq_some_iff.mp e1).1
    rw [h.1] at this
    exact this
  have h1 := h.2 i r e1
  have h2 := h'.2 i r' e2
  refine ext_of_get (by rw [h1.1, h2.1]) fun j t t' e3 e4 => ?_
  have hj : j < i := by
    have := (List.getElem?_eq_some_iff.mp e3).1
    omega
  have := e i j hi hj
  rwa [tt_of e1 e3, tt_of e2 e4] at this
def behT (ms : List Int) (t u : Turn) : Turn :=
  (t.1.map fun c => u.1.getD c 0, mkT t.1.length fun i j =>
    sumF ms (tt t.2 i j) (tabT u.2 (t.1.getD i 0) (t.1.getD j 0)))
theorem LeadP.ne {hs : List Int} {L : List Nat} (h : LeadP hs L) {a b c d : Nat}
    (ha : L[a]? = some c) (hb : L[b]? = some d) (hn : a ≠ b) : c ≠ d := by
  intro e
  subst e
  exact hn (h.inj ha hb)
theorem beh_lead {ms hs : List Int} {t u : Turn} (ht : TurnP ms hs t)
    (hu : TurnP ms hs u) : LeadP hs (behT ms t u).1 := by
  have hl := ht.lead.len
  have at_ : ∀ x y : Nat, (behT ms t u).1[x]? = some y → ∃ c, t.1[x]? = some c ∧
      u.1[c]? = some y := by
    intro x y e
    have e : (t.1.map fun c => u.1.getD c 0)[x]? = some y := e
    rw [List.getElem?_map] at e
    cases ec : t.1[x]? with
    | none => rw [ec] at e; cases e
    | some c =>
      rw [ec] at e
      obtain ⟨d, hd, _⟩ := hu.lead.at (ht.lead.hue x c ec).1
      refine ⟨c, rfl, ?_⟩
      rw [hd]
      have : u.1.getD c 0 = y := Option.some.inj e
      rw [natD_of hd] at this
      rw [this]
  refine ⟨by show (t.1.map _).length = _; rw [List.length_map, hl], ?_, fun x y e => ?_⟩
  · show List.Pairwise _ _
    rw [List.pairwise_iff_getElem]
    intro i j hi hj hij e
    obtain ⟨c, c1, c2⟩ := at_ i _ (List.getElem?_eq_getElem hi)
    obtain ⟨d, d1, d2⟩ := at_ j _ (List.getElem?_eq_getElem hj)
    rw [← e] at d2
    have := hu.lead.inj c2 d2
    subst this
    have := ht.lead.inj c1 d1
    omega
  · obtain ⟨c, c1, c2⟩ := at_ x y e
    have h1 := hu.lead.hue c y c2
    exact ⟨h1.1, h1.2.trans (ht.lead.hue x c c1).2⟩
theorem beh_turn {ms hs : List Int} {t u : Turn} (hM : MsP ms) (ht : TurnP ms hs t)
    (hu : TurnP ms hs u) : TurnP ms hs (behT ms t u) := by
  refine ⟨beh_lead ht hu, ?_⟩
  show TabP ms hs.length (mkT t.1.length _)
  rw [ht.lead.len]
  refine mkT_tab fun i j hi hj => ?_
  obtain ⟨c, hc, hc2⟩ := ht.lead.at hi
  obtain ⟨d, hd, hd2⟩ := ht.lead.at (b := j) (by omega)
  rw [natD_of hc, natD_of hd]
  exact sum_tie hM (tt_tie ht.tab hi hj)
    (tabT_tie hu.tab hc2 hd2 (ht.lead.ne hc hd (by omega)))
theorem beh_tab {ms hs : List Int} {t u : Turn} {i j c d : Nat} (ht : TurnP ms hs t)
    (hi : t.1[i]? = some c) (hj : t.1[j]? = some d) (hij : i ≠ j) :
    tabT (behT ms t u).2 i j = sumF ms (tabT t.2 i j) (tabT u.2 c d) := by
  have hi2 := (List.getElem?_eq_some_iff.mp hi).1
  have hj2 := (List.getElem?_eq_some_iff.mp hj).1
  show tabT (mkT t.1.length _) i j = _
  by_cases e : j < i
  · rw [tabT_gt e, tabT_gt e, mkT_tt hi2 e, natD_of hi, natD_of hj]
  · rw [tabT_le e, tabT_le e, mkT_tt hj2 (by omega), natD_of hi, natD_of hj,
      tabT_comm _ _ _ (ht.lead.ne hj hi (Ne.symm hij))]
theorem beh_led {ms hs : List Int} {t u : Turn} {p : Spot} (hM : MsP ms)
    (ht : TurnP ms hs t) (hu : TurnP ms hs u) (hp : PlP ms hs.length p.1 p.2) :
    ledP ms (behT ms t u) p = ledP ms u (ledP ms t p) := by
  have hb := beh_turn hM ht hu
  have h1 := led_place hM ht hp
  have h2 := led_place hM hu h1
  have h3 := led_place hM hb hp
  obtain ⟨c, hc, hc2⟩ := ht.lead.at hp.lt
  obtain ⟨e, he, he2⟩ := hu.lead.at hc2
  have hbe : ∀ b d x : Nat, t.1[b]? = some d → u.1[d]? = some x →
      (behT ms t u).1[b]? = some x := by
    intro b d x h4 h5
    show (t.1.map fun c => u.1.getD c 0)[b]? = some x
    rw [List.getElem?_map, h4]
    show some (u.1.getD d 0) = some x
    rw [natD_of h5]
  have e1 : (ledP ms t p).1 = c := natD_of hc
  have e2 : (ledP ms u (ledP ms t p)).1 = e := by
    show u.1.getD (ledP ms t p).1 0 = e
    rw [e1]; exact natD_of he
  have e3 : (ledP ms (behT ms t u) p).1 = e := natD_of (hbe _ _ _ hc he)
  refine Prod.ext (e3.trans e2.symm) ?_
  refine ext_of_get (by rw [h3.len, h2.len]) fun x y z ey ez => ?_
  have hx : x < hs.length := by
    have := (List.getElem?_eq_some_iff.mp ey).1
    rw [h3.len] at this
    exact this
  obtain ⟨d, hd, hd2⟩ := hu.lead.surj hx
  obtain ⟨b, hb1, hb2⟩ := ht.lead.surj hd
  have f1 := led_get (a := p.1) (S := p.2) hb hp (hbe b d x hb2 hd2)
  have f2 := led_get (a := (ledP ms t p).1) (S := (ledP ms t p).2) hu h1 hd2
  rw [show ledP ms (behT ms t u) (p.1, p.2) = ledP ms (behT ms t u) p from rfl, ey] at f1
  rw [show ledP ms u ((ledP ms t p).1, (ledP ms t p).2) = ledP ms u (ledP ms t p) from rfl, ez] at f2
  rw [Option.some.inj f1, Option.some.inj f2, e1]
  by_cases eb : b = p.1
  · subst eb
    rw [hc] at hb2
    rw [if_pos rfl, if_pos (Option.some.inj hb2).symm]
  · have hdc : d ≠ c := ht.lead.ne hb2 hc eb
    rw [if_neg eb, if_neg hdc, led_says ht hp hb2 eb, beh_tab ht hc hb2 (Ne.symm eb)]
    obtain ⟨w, ew⟩ := says_get hp.len hb1
    rw [getD_of ew]
    exact (sum_assoc hM (hp.tie w (List.mem_of_getElem? ew))
      (tabT_tie ht.tab hp.lt hb1 (Ne.symm eb)) (tabT_tie hu.tab hc2 hd (Ne.symm hdc))).symm
/-- a turning is known by where it leads -/
theorem turn_ext {ms hs : List Int} {t u : Turn} (ht : TurnP ms hs t) (hu : TurnP ms hs u)
    (h1 : t.1 = u.1) (h2 : ∀ i j, i < hs.length → j < i → tt t.2 i j = tt u.2 i j) : t = u :=
  Prod.ext h1 (tab_ext ht.tab hu.tab h2)
def invL (n : Nat) (L : List Nat) : List Nat := (List.range n).map fun i => L.idxOf i
def backT (ms : List Int) (t : Turn) : Turn :=
  (invL t.1.length t.1, mkT t.1.length fun i j =>
    negF ms (tabT t.2 (t.1.idxOf i) (t.1.idxOf j)))
theorem LeadP.idx {hs : List Int} {L : List Nat} (h : LeadP hs L) {i : Nat}
    (hi : i < hs.length) : L[L.idxOf i]? = some i ∧ L.idxOf i < hs.length := by
  obtain ⟨b, hb, hb2⟩ := h.surj hi
  have hm := List.mem_of_getElem? hb2
  have hl : L.idxOf i < L.length := List.idxOf_lt_length_of_mem hm
  refine ⟨?_, by rw [← h.len]; exact hl⟩
  rw [List.getElem?_eq_getElem hl, List.getElem_idxOf]
theorem inv_get {n : Nat} {L : List Nat} {i : Nat} (hi : i < n) :
    (invL n L)[i]? = some (L.idxOf i) := by
  unfold invL
  rw [List.getElem?_map, List.getElem?_range hi]; rfl
theorem back_lead {hs : List Int} {L : List Nat} (h : LeadP hs L) :
    LeadP hs (invL L.length L) := by
  rw [h.len]
  have at_ : ∀ x y : Nat, (invL hs.length L)[x]? = some y → x < hs.length ∧ L[y]? = some x := by
    intro x y e
    have hx : x < hs.length := by
      have := (List.getElem?_eq_some_iff.mp e).1
      simpa [invL] using this
    rw [inv_get hx] at e
    cases e
    exact ⟨hx, (h.idx hx).1⟩
  refine ⟨by simp [invL], ?_, fun x y e => ?_⟩
  · show List.Pairwise _ _
    rw [List.pairwise_iff_getElem]
    intro i j hi hj hij e
    have h1 := (at_ i _ (List.getElem?_eq_getElem hi)).2
    have h2 := (at_ j _ (List.getElem?_eq_getElem hj)).2
    rw [← e, h1] at h2
    have := Option.some.inj h2
    omega
  · obtain ⟨h1, h2⟩ := at_ x y e
    have hy : y < hs.length := by
      have := (List.getElem?_eq_some_iff.mp h2).1
      rw [h.len] at this
      exact this
    exact ⟨hy, (h.hue y x h2).2.symm⟩
theorem back_turn {ms hs : List Int} {t : Turn} (hM : MsP ms) (ht : TurnP ms hs t) :
    TurnP ms hs (backT ms t) := by
  refine ⟨back_lead ht.lead, ?_⟩
  show TabP ms hs.length (mkT t.1.length _)
  rw [ht.lead.len]
  refine mkT_tab fun i j hi hj => ?_
  have h1 := ht.lead.idx hi
  have h2 := ht.lead.idx (i := j) (by omega)
  refine less_tie hM (rep_tie hM) (tabT_tie ht.tab h1.2 h2.2 fun e => ?_)
  rw [e, h2.1] at h1
  have := Option.some.inj h1.1
  omega
theorem beh_back {ms hs : List Int} {t : Turn} (hM : MsP ms) (ht : TurnP ms hs t) :
    behT ms t (backT ms t) = stillT ms hs.length := by
  have hb := back_turn hM ht
  refine turn_ext (beh_turn hM ht hb) (still_turn hM) ?_ fun i j hi hj => ?_
  · show (t.1.map fun c => (invL t.1.length t.1).getD c 0) = List.range hs.length
    refine ext_of_get (by simp [ht.lead.len]) fun x y z e1 e2 => ?_
    rw [List.getElem?_map] at e1
    cases ec : t.1[x]? with
    | none => rw [ec] at e1; cases e1
    | some c =>
      rw [ec] at e1
      have hc := (ht.lead.hue x c ec).1
      have hx : x < hs.length := by
        have := (List.getElem?_eq_some_iff.mp ec).1
        rw [ht.lead.len] at this
        exact this
      rw [List.getElem?_range hx] at e2
      cases e2
      have e3 : (invL t.1.length t.1).getD c 0 = y := Option.some.inj e1
      rw [natD_of (inv_get (by rw [ht.lead.len]; exact hc))] at e3
      rw [← e3]
      exact ht.lead.inj (ht.lead.idx hc).1 ec
  · obtain ⟨c, hc, hc2⟩ := ht.lead.at hi
    obtain ⟨d, hd, hd2⟩ := ht.lead.at (b := j) (by omega)
    have hcd : c ≠ d := ht.lead.ne hc hd (by omega)
    have e1 : tt (behT ms t (backT ms t)).2 i j = tabT (behT ms t (backT ms t)).2 i j := by
      rw [tabT, if_pos hj]
    rw [e1, beh_tab ht hc hd (by omega)]
    have ic : t.1.idxOf c = i := ht.lead.inj (ht.lead.idx hc2).1 hc
    have id : t.1.idxOf d = j := ht.lead.inj (ht.lead.idx hd2).1 hd
    have e2 : tabT (backT ms t).2 c d = negF ms (tabT t.2 i j) := by
      show tabT (mkT t.1.length _) c d = _
      rw [ht.lead.len]
      by_cases e : d < c
      · rw [tabT_gt e, mkT_tt hc2 e, ic, id]
      · rw [tabT_le e, mkT_tt hd2 (by omega), ic, id, tabT_comm _ _ _ (by omega)]
    rw [e2, sum_neg hM (tabT_tie ht.tab hi (j := j) (by omega) (by omega))]
    exact (const_tt hi hj).symm
theorem LeadP.still_beh {ms hs : List Int} {t : Turn} (hM : MsP ms) (ht : TurnP ms hs t) :
    behT ms t (stillT ms hs.length) = t := by
  refine turn_ext (beh_turn hM ht (still_turn hM)) ht ?_ fun i j hi hj => ?_
  · show (t.1.map fun c => (List.range hs.length).getD c 0) = t.1
    conv => rhs; rw [← List.map_id t.1]
    apply List.map_congr_left
    intro c hc
    obtain ⟨x, hx⟩ := List.getElem?_of_mem hc
    exact natD_of (List.getElem?_range (ht.lead.hue x c hx).1)
  · obtain ⟨c, hc, hc2⟩ := ht.lead.at hi
    obtain ⟨d, hd, hd2⟩ := ht.lead.at (b := j) (by omega)
    have e1 : tt (behT ms t (stillT ms hs.length)).2 i j = tabT (behT ms t (stillT ms hs.length)).2 i j := by
      rw [tabT, if_pos hj]
    rw [e1, beh_tab ht hc hd (by omega)]
    show sumF ms (tabT t.2 i j) (tabT (constT (zt ms) hs.length) c d) = _
    rw [const_tabT hc2 hd2 (ht.lead.ne hc hd (by omega)),
      sum_zero hM (tabT_tie ht.tab hi (j := j) (by omega) (by omega)), tabT, if_pos hj]

def preBh (C : Addr) (ds : List D) : Prop := ∃ ms hs t u,
  ds = [frD C ms hs, dturn t, dturn u] ∧ MsP ms ∧ hs.length ≤ 16 ∧
  TurnP ms hs t ∧ TurnP ms hs u
def fBh : List D → D
  | [.ins _ _ [.tup ms, _], t, u] => dturn (behT (uints ms) (uturn t) (uturn u))
  | _ => .non
theorem fBh_is (C : Addr) (ms hs : List Int) (t u : Turn) :
    fBh [frD C ms hs, dturn t, dturn u] = dturn (behT ms t u) := by
  show dturn (behT (uints (dints ms)) (uturn (dturn t)) (uturn (dturn u))) = _
  rw [uints_dints, uturn_dturn, uturn_dturn]
def behRow (ms : List Int) (t u : Turn) (i : Nat) : List (List Int) :=
  (List.range i).map fun j => sumF ms (tt t.2 i j) (tabT u.2 (t.1.getD i 0) (t.1.getD j 0))
def preMb (C : Addr) (ds : List D) : Prop := ∃ ms hs t u, ∃ i : Nat,
  ds = [frD C ms hs, dturn t, dturn u, .int i] ∧ MsP ms ∧ hs.length ≤ 16 ∧
  TurnP ms hs t ∧ TurnP ms hs u ∧ i < hs.length
def fMb : List D → D
  | [.ins _ _ [.tup ms, _], t, u, .int i] =>
    dsays (behRow (uints ms) (uturn t) (uturn u) i.toNat)
  | _ => .non
theorem fMb_is (C : Addr) (ms hs : List Int) (t u : Turn) (i : Nat) :
    fMb [frD C ms hs, dturn t, dturn u, .int i] = dsays (behRow ms t u i) := by
  show dsays (behRow (uints (dints ms)) (uturn (dturn t)) (uturn (dturn u)) (i : Int).toNat) = _
  rw [uints_dints, uturn_dturn, uturn_dturn, Int.toNat_natCast]
theorem row_get {T : List (List (List Int))} {i : Nat} {r : List (List Int)}
    (h : T[i]? = some r) : (T.map fun r => D.tup (r.map fun t => D.tup (dints t)))[i]? =
      some (D.tup (r.map fun t => D.tup (dints t))) := by
  rw [List.getElem?_map, h]; rfl

noncomputable def cB (p : Prop) : Bool := @decide p (Classical.propDecidable p)
theorem cB_true {p : Prop} (h : p) : cB p = true := by
  unfold cB; exact @decide_eq_true p (Classical.propDecidable p) h
theorem cB_false {p : Prop} (h : ¬ p) : cB p = false := by
  unfold cB; exact @decide_eq_false p (Classical.propDecidable p) h
/-- things that are not too much -/
def Fit (d : D) : Prop := ∃ (b : Int) (k w : Nat), Sm b k w d ∧ 5 ≤ b ∧ b ≤ 8000 ∧ k ≤ 50 ∧ w ≤ 30000
theorem Fit.plain {d : D} (h : Fit d) : d.plain = true := by
  obtain ⟨b, k, w, h, _⟩ := h
  exact h.itm.plain
theorem sm_kk {b : Int} {k w : Nat} {xs : List D} (h : Sm b k w (.tup xs)) : ∃ k', k = k' + 1 ∧ Sms b k' w xs := by
  have := h.itm.deep1
  obtain ⟨k', rfl⟩ : ∃ k', k = k' + 1 := ⟨k - 1, by omega⟩
  exact ⟨k', rfl, h.sms⟩
theorem Fit.len {xs : List D} (h : Fit (.tup xs)) : xs.length ≤ 30000 := by
  obtain ⟨b, k, w, h, _, _, _, hw⟩ := h
  obtain ⟨k', rfl, hs⟩ := sm_kk h
  have := hs.its.len
  omega
abbrev dp (p : Nat × Nat) : D := .tup [.int p.1, .int p.2]
def InR (n : Nat) (P : List (Nat × Nat)) : Prop := ∀ p ∈ P, p.1 < n ∧ p.2 < n
def Mat (P : List (Nat × Nat)) : Prop := P.Pairwise fun p q => p.1 < q.1 ∧ p.2 ≠ q.2
def Hue (hs : List Int) (P : List (Nat × Nat)) : Prop := ∀ p ∈ P, hs[p.1]? = hs[p.2]?
def Tis (ms : List Int) (T U : List (List (List Int))) (P : List (Nat × Nat)) : Prop :=
  ∀ p ∈ P, ∀ q ∈ P, p.1 ≠ q.1 → webT ms T p.1 q.1 = webT ms U p.2 q.2
def Fit2 (d : D) : Prop := ∃ (b : Int) (k w : Nat), Sm b k w d ∧ 100 ≤ b ∧ b ≤ 8000 ∧ k ≤ 50 ∧ w ≤ 30000
theorem Fit2.plain {d : D} (h : Fit2 d) : d.plain = true := by
  obtain ⟨b, k, w, h, _⟩ := h
  exact h.itm.plain
theorem Fit2.len {xs : List D} (h : Fit2 (.tup xs)) : xs.length ≤ 30000 := by
  obtain ⟨b, k, w, h, _, _, _, hw⟩ := h
  obtain ⟨k', rfl, hs⟩ := sm_kk h
  have := hs.its.len
  omega
section
variable {K : PySem.W.Frag} {l : Option Addr} {ρ : Ro} {m : Nat}
variable {Φ : Nat → D → Prop}
end
theorem alike_ints2 : ∀ (a b : List Int), PySem.W.alikeAll (D.pys (dints a)) (D.pys (dints b)) = true
  | [], _ => by rw [dints, List.map_nil, D.pys]; simp [PySem.W.alikeAll]
  | _ :: _, [] => by simp [dints, D.pys, PySem.W.alikeAll]
  | x :: a, y :: b => by
    show PySem.W.alikeAll (PyData.int x :: D.pys (dints a)) (PyData.int y :: D.pys (dints b)) = true
    rw [PySem.W.alikeAll, alike_ints2 a b]
    simp [PySem.W.alike]
theorem alike_says : ∀ (S U : List (List Int)), PySem.W.alikeAll (D.pys (S.map fun t => D.tup (dints t))) (D.pys (U.map fun t => D.tup (dints t))) = true
  | [], _ => by rw [List.map_nil, D.pys]; simp [PySem.W.alikeAll]
  | _ :: _, [] => by simp [D.pys, PySem.W.alikeAll]
  | x :: a, y :: b => by
    show PySem.W.alikeAll (PyData.tuple (D.pys (dints x)) :: D.pys (a.map fun t => D.tup (dints t))) (PyData.tuple (D.pys (dints y)) :: D.pys (b.map fun t => D.tup (dints t))) = true
    rw [PySem.W.alikeAll, alike_says a b, PySem.W.alike, alike_ints2]
    rfl
abbrev Row := Spot × Spot
abbrev drow (r : Row) : D := .tup [dspot r.1, dspot r.2]
structure RowP (ms : List Int) (n : Nat) (r : Row) : Prop where
  fst : PlP ms n r.1.1 r.1.2
  snd : PlP ms n r.2.1 r.2.2
structure PartP (ms : List Int) (n : Nat) (P : List Row) : Prop where
  row : ∀ r ∈ P, RowP ms n r
  ris : P.Pairwise fun p q => leD (drow p) (drow q) = true
  nd1 : (P.map (·.1)).Nodup
  nd2 : (P.map (·.2)).Nodup
theorem RowP.num {ms : List Int} {n : Nat} {r : Row} (h : RowP ms n r) (hM : MsP ms) (hn : n ≤ 17) : Num 4 3402 (drow r) := by
  refine (Num.tup (k := 3) (w := 1700) fun x hx => ?_).up (by omega) (by simp)
  simp only [List.mem_cons, List.not_mem_nil, or_false] at hx
  rcases hx with rfl | rfl
  · exact h.fst.num hM hn
  · exact h.snd.num hM hn
theorem keyeds_all : ∀ {xs : List D}, D.keyeds xs = true ↔ ∀ x ∈ xs, x.keyed = true
  | [] => ⟨(fun _ _ z => nomatch z), fun _ => rfl⟩
  | x :: xs => by
    rw [D.keyeds, Bool.and_eq_true, keyeds_all (xs := xs)]
    constructor
    · rintro ⟨h1, h2⟩ y hy
      rcases List.mem_cons.mp hy with rfl | hy
      · exact h1
      · exact h2 y hy
    · intro h
      exact ⟨h x List.mem_cons_self, fun y hy => h y (List.mem_cons_of_mem _ hy)⟩
theorem keyed_tup {xs : List D} (h : ∀ x ∈ xs, x.keyed = true) : (D.tup xs).keyed = true := by
  rw [D.keyed]; exact keyeds_all.mpr h
theorem keyed_ints (t : List Int) : (D.tup (dints t)).keyed = true := keyed_tup fun x hx => by
  obtain ⟨i, _, rfl⟩ := List.mem_map.mp hx
  rfl
theorem depthAll_le {ks : List NestedKey} {c : Nat} (h : ∀ k ∈ ks, k.depth ≤ c) : NestedKey.depthAll ks ≤ c := by
  induction ks with
  | nil => exact Nat.zero_le _
  | cons k ks ih =>
    rw [NestedKey.depthAll]
    have h1 := h k List.mem_cons_self
    have h2 := ih fun x hx => h x (List.mem_cons_of_mem _ hx)
    omega
def stAt (ms : List Int) (T : List (List (List Int))) (i : Nat) : Spot := (standP ms T).getD i (0, [])
structure LikeP (ms hs : List Int) (T U : List (List (List Int))) (P : List (Nat × Nat)) : Prop where
  inr : InR hs.length P
  mat : Mat P
  hue : Hue hs P
  tis : Tis ms T U P
theorem LikeP.sub {ms hs : List Int} {T U : List (List (List Int))} {P Q : List (Nat × Nat)} (h : LikeP ms hs T U P) (s : Q.Sublist P) : LikeP ms hs T U Q :=
  ⟨fun p hp => h.inr p (s.mem hp), h.mat.sublist s, fun p hp => h.hue p (s.mem hp), fun p hp q hq => h.tis p (s.mem hp) q (s.mem hq)⟩
theorem LikeP.self {ms hs : List Int} {T U : List (List (List Int))} {P : List (Nat × Nat)} (h : LikeP ms hs T U P) :
    LikeP ms hs T T (P.map fun p => (p.1, p.1)) := by
  refine ⟨fun p hp => ?_, ?_, fun p hp => ?_, fun p hp q hq _ => ?_⟩
  · obtain ⟨q, hq, rfl⟩ := List.mem_map.mp hp
    exact ⟨(h.inr q hq).1, (h.inr q hq).1⟩
  · unfold Mat
    rw [List.pairwise_map]
    exact List.Pairwise.imp (fun {p q} z => ⟨z.1, by omega⟩) h.mat
  · obtain ⟨q, hq, rfl⟩ := List.mem_map.mp hp
    rfl
  · obtain ⟨p', _, rfl⟩ := List.mem_map.mp hp
    obtain ⟨q', _, rfl⟩ := List.mem_map.mp hq
    rfl
theorem st_tie {ms : List Int} {n : Nat} {T : List (List (List Int))} {i j : Nat} (hM : MsP ms) (hT : TabP ms n T)
    (hi : i < n) (hj : j < n) (hij : i ≠ j) :
    lessF ms ((stAt ms T i).2.getD j []) ((stAt ms T j).2.getD i []) = webT ms T i j :=
  stand_web hM hT hi hj hij
/-- the first place of a stem -/
def firstOf (L : List Spot) (a : Nat) : Option Spot := L.find? fun p => decide (p.1 = a)
abbrev Sign := Int × List (List Int)
abbrev dsign (s : Sign) : D := .tup [.int s.1, dsays s.2]
noncomputable def diffs (ms : List Int) (L : List Spot) (x : Nat) : List (List Int) :=
  (L.filter fun p => !cB (firstOf L p.1 = some p)).map fun p => lessF ms (p.2.getD x []) (((firstOf L p.1).getD (0, [])).2.getD x [])
/-- the stems that no place is of, with their signs -/
noncomputable def frees (ms hs : List Int) (L : List Spot) : List (Nat × Sign) :=
  (hs.zipIdx.filter fun a => !(firstOf L a.2).isSome).map fun a => (a.2, (a.1, diffs ms L a.2))
def pairsN (n : Nat) : List (Nat × Nat) := (List.range n).flatMap fun i => (List.range (n - (i + 1))).map fun t => (i, i + 1 + t)
theorem mem_pairsN {n : Nat} {p : Nat × Nat} : p ∈ pairsN n ↔ p.1 < p.2 ∧ p.2 < n := by
  unfold pairsN
  rw [List.mem_flatMap]
  constructor
  · rintro ⟨i, hi, h⟩
    obtain ⟨t, ht, rfl⟩ := List.mem_map.mp h
    have := List.mem_range.mp hi
    have := List.mem_range.mp ht
    show i < i + 1 + t ∧ i + 1 + t < n
    omega
  · rintro ⟨h1, h2⟩
    refine ⟨p.1, List.mem_range.mpr (by omega), List.mem_map.mpr ⟨p.2 - (p.1 + 1), List.mem_range.mpr (by omega), ?_⟩⟩
    show (p.1, p.1 + 1 + (p.2 - (p.1 + 1))) = p
    rw [show p.1 + 1 + (p.2 - (p.1 + 1)) = p.2 by omega]
/-- what bars a part by one row, by two rows -/
abbrev dB1 (s : Str) (i : Nat) : D := .tup [.str s, .int i]
abbrev dB2 (s : Str) (p : Nat × Nat) : D := .tup [.str s, .int p.1, .int p.2]
def rowAt (P : List Row) (i : Nat) : Row := P.getD i ((0, []), (0, []))
def hueB (hs : List Int) (r : Row) : Bool := !decide (hs.getD r.1.1 0 = hs.getD r.2.1 0)
def hueBs (hs : List Int) (P : List Row) : List Nat := (P.zipIdx.filter fun a => hueB hs a.1).map fun a => a.2
def stemB (p q : Row) : Bool := !decide (decide (p.1.1 = q.1.1) = decide (p.2.1 = q.2.1))
def tieB2 (ms : List Int) (p q : Row) : Bool := !decide (p.1.1 = q.1.1) && (!decide (p.2.1 = q.2.1) &&
  !decide (lessF ms (p.1.2.getD q.1.1 []) (q.1.2.getD p.1.1 []) = lessF ms (p.2.2.getD q.2.1 []) (q.2.2.getD p.2.1 [])))
def stemBs (P : List Row) : List (Nat × Nat) := (pairsN P.length).filter fun p => stemB (rowAt P p.1) (rowAt P p.2)
def tieBs (ms : List Int) (P : List Row) : List (Nat × Nat) := (pairsN P.length).filter fun p => tieB2 ms (rowAt P p.1) (rowAt P p.2)
def sHue : Str := Str.ofString "hue"
def sStems : Str := Str.ofString "stems"
def sTie : Str := Str.ofString "tie"
def sCount : Str := Str.ofString "count"
def rowBs (ms hs : List Int) (P : List Row) : List D :=
  (hueBs hs P).map (dB1 sHue) ++ (stemBs P).map (dB2 sStems) ++ (tieBs ms P).map (dB2 sTie)
structure RowsP (ms hs : List Int) (P : List Row) : Prop where
  row : ∀ r ∈ P, RowP ms hs.length r
  len : P.length ≤ 40
  hue : ∀ h ∈ hs, 0 ≤ h ∧ h ≤ 9
theorem rowAt_of {P : List Row} {i : Nat} {r : Row} (h : P[i]? = some r) : rowAt P i = r := by
  rw [rowAt, List.getD_eq_getElem?_getD, h]; rfl
theorem rowAt_get {P : List Row} {i : Nat} (h : i < P.length) : P[i]? = some (rowAt P i) := by
  rw [rowAt, List.getD_eq_getElem?_getD, List.getElem?_eq_getElem h]; rfl
noncomputable def sgns (ms hs : List Int) (L : List Spot) : List Sign := (frees ms hs L).map (·.2)
theorem sgns_len (ms hs : List Int) (L : List Spot) : (sgns ms hs L).length ≤ hs.length := by
  rw [sgns, List.length_map, frees, List.length_map]
  exact Nat.le_trans (List.length_filter_le _ _) (by rw [List.length_zipIdx]; exact Nat.le_refl _)
structure SignP (ms : List Int) (s : Sign) : Prop where
  hue : 0 ≤ s.1 ∧ s.1 ≤ 9
  len : s.2.length ≤ 40
  tie : ∀ t ∈ s.2, TieP ms t
theorem row_nil (y : PyData) (ys : List PyData) : PySem.W.rowLt [] (y :: ys) = true := by
  unfold PySem.W.rowLt
  rw [PySem.W.toks_all_cons]
  simp only [PySem.W.keyToksAll]
  rw [PyProof.Rows.lex_diff (O := itemOrd) (hne := by simp)]
  rfl
theorem row_cons {x y : PyData} (h : PySem.W.alike x y = true) (xs ys : List PyData) :
    PySem.W.rowLt (x :: xs) (y :: ys) = if PyData.eqv x y = true then PySem.W.rowLt xs ys else PySem.W.dataLt x y :=
  PySem.W.dataLt_cons h xs ys
mutual
theorem keyed_num : ∀ {d : D}, d.keyed = true → d.numB = true
  | .int _, _ => rfl
  | .tup xs, h => by
    rw [D.keyed] at h
    rw [D.numB]; exact keyeds_num h
  | .non, h | .bl _, h | .str _, h | .lst _, h | .dic _, h | .ins _ _ _, h | .scr _, h | .dct _ _, h => by cases h
theorem keyeds_num : ∀ {xs : List D}, D.keyeds xs = true → D.nums xs = true
  | [], _ => rfl
  | x :: xs, h => by
    rw [D.keyeds, Bool.and_eq_true] at h
    rw [D.nums, keyed_num h.1, keyeds_num h.2]; rfl
end
mutual
theorem lt_anti : ∀ {x y : D}, x.keyed = true → y.keyed = true → PySem.W.alike x.py y.py = true → PySem.W.alike y.py x.py = true →
    PySem.W.dataLt x.py y.py = false → PySem.W.dataLt y.py x.py = false → x = y
  | .int i, .int j, _, _, _, _, h1, h2 => by
    have h1 : PySem.W.dataLt (.int i) (.int j) = false := h1
    have h2 : PySem.W.dataLt (.int j) (.int i) = false := h2
    rw [PySem.W.dataLt_int, decide_eq_false_iff_not] at h1 h2
    rw [show i = j by omega]
  | .tup xs, .tup ys, hx, hy, a1, a2, h1, h2 => by
    rw [D.keyed] at hx hy
    rw [D.py, D.py, PySem.W.alike] at a1 a2
    rw [D.py, D.py, PySem.W.dataLt_tuple] at h1 h2
    rw [rows_anti hx hy a1 a2 h1 h2]
  | .int _, .tup _, _, _, a1, _, _, _ => by
    rw [D.py, D.py] at a1
    simp [PySem.W.alike] at a1
  | .tup _, .int _, _, _, a1, _, _, _ => by
    rw [D.py, D.py] at a1
    simp [PySem.W.alike] at a1
  | .int _, .non, _, h, _, _, _, _ | .int _, .bl _, _, h, _, _, _, _ | .int _, .str _, _, h, _, _, _, _ | .int _, .lst _, _, h, _, _, _, _
  | .int _, .dic _, _, h, _, _, _, _ | .int _, .ins _ _ _, _, h, _, _, _, _ | .int _, .scr _, _, h, _, _, _, _ | .int _, .dct _ _, _, h, _, _, _, _
  | .tup _, .non, _, h, _, _, _, _ | .tup _, .bl _, _, h, _, _, _, _ | .tup _, .str _, _, h, _, _, _, _ | .tup _, .lst _, _, h, _, _, _, _
  | .tup _, .dic _, _, h, _, _, _, _ | .tup _, .ins _ _ _, _, h, _, _, _, _ | .tup _, .scr _, _, h, _, _, _, _ | .tup _, .dct _ _, _, h, _, _, _, _ => by cases h
  | .non, _, h, _, _, _, _, _ | .bl _, _, h, _, _, _, _, _ | .str _, _, h, _, _, _, _, _ | .lst _, _, h, _, _, _, _, _
  | .dic _, _, h, _, _, _, _, _ | .ins _ _ _, _, h, _, _, _, _, _ | .scr _, _, h, _, _, _, _, _ | .dct _ _, _, h, _, _, _, _, _ => by cases h
theorem rows_anti : ∀ {xs ys : List D}, D.keyeds xs = true → D.keyeds ys = true → PySem.W.alikeAll (D.pys xs) (D.pys ys) = true →
    PySem.W.alikeAll (D.pys ys) (D.pys xs) = true → PySem.W.rowLt (D.pys xs) (D.pys ys) = false → PySem.W.rowLt (D.pys ys) (D.pys xs) = false → xs = ys
  | [], [], _, _, _, _, _, _ => rfl
  | [], y :: ys, _, _, _, _, h1, _ => by
    rw [D.pys, D.pys, row_nil] at h1
    cases h1
  | x :: xs, [], _, _, _, _, _, h2 => by
    rw [D.pys, D.pys, row_nil] at h2
    cases h2
  | x :: xs, y :: ys, hx, hy, a1, a2, h1, h2 => by
    rw [D.keyeds, Bool.and_eq_true] at hx hy
    rw [D.pys, D.pys, PySem.W.alikeAll, Bool.and_eq_true] at a1 a2
    rw [D.pys, D.pys, row_cons a1.1] at h1
    rw [D.pys, D.pys, row_cons a2.1] at h2
    have q := eqv_iff x y (keyed_num hx.1) (keyed_num hy.1)
    have q' := eqv_iff y x (keyed_num hy.1) (keyed_num hx.1)
    by_cases e : PyData.eqv x.py y.py = true
    · have exy := q.mp e
      rw [if_pos e] at h1
      rw [if_pos (q'.mpr exy.symm)] at h2
      rw [exy, rows_anti hx.2 hy.2 a1.2 a2.2 h1 h2]
    · rw [if_neg e] at h1
      rw [if_neg fun z => e (q.mpr (q'.mp z).symm)] at h2
      exact absurd (q.mpr (lt_anti hx.1 hy.1 a1.1 a2.1 h1 h2)) e
end
theorem sortU_eq {ds rs rs' : List D} (hk : ∀ d ∈ ds, d.keyed = true) (ha : PySem.W.AllAlike (ds.map D.py)) (h : SortU ds rs) (h' : SortU ds rs') : rs = rs' := by
  have pm : rs.Perm rs' := (List.perm_ext_iff_of_nodup h.1 h'.1).mpr fun d => (h.2.1 d).trans (h'.2.1 d).symm
  refine List.Perm.eq_of_pairwise (le := fun a b => leD a b = true) (fun a b ha1 hb1 h1 h2 => ?_) h.2.2 h'.2.2 pm
  have ma := (h.2.1 a).mp ha1
  have mb := (h'.2.1 b).mp hb1
  have e1 : PySem.W.dataLt b.py a.py = false := by
    have h1 : (!PySem.W.dataLt b.py a.py) = true := h1
    simpa using h1
  have e2 : PySem.W.dataLt a.py b.py = false := by
    have h2 : (!PySem.W.dataLt a.py b.py) = true := h2
    simpa using h2
  exact lt_anti (hk a ma) (hk b mb) (ha _ (List.mem_map.mpr ⟨a, ma, rfl⟩) _ (List.mem_map.mpr ⟨b, mb, rfl⟩)) (ha _ (List.mem_map.mpr ⟨b, mb, rfl⟩) _ (List.mem_map.mpr ⟨a, ma, rfl⟩)) e2 e1
def usign : D → Sign
  | .tup [.int h, s] => (h, usays s)
  | _ => (0, [])
theorem usign_dsign (s : Sign) : usign (dsign s) = s := by
  show (s.1, usays (dsays s.2)) = s
  rw [usays_dsays]
theorem dsign_inj {s t : Sign} (h : dsign s = dsign t) : s = t := by
  rw [← usign_dsign s, h, usign_dsign]
theorem py_sign (s : Sign) : (dsign s).py = .tuple [.int s.1, .tuple (D.pys (s.2.map fun t => D.tup (dints t)))] := rfl
theorem alike_signs (A : List Sign) : PySem.W.AllAlike ((A.map dsign).map D.py) := by
  intro d hd d' hd'
  obtain ⟨x, hx, rfl⟩ := List.mem_map.mp hd
  obtain ⟨p, _, rfl⟩ := List.mem_map.mp hx
  obtain ⟨y, hy, rfl⟩ := List.mem_map.mp hd'
  obtain ⟨q, _, rfl⟩ := List.mem_map.mp hy
  rw [py_sign, py_sign, PySem.W.alike, PySem.W.alikeAll, PySem.W.alikeAll, PySem.W.alike, PySem.W.alike, alike_says]
  simp [PySem.W.alikeAll]
theorem keyed_sign (s : Sign) : (dsign s).keyed = true := keyed_tup fun x hx => by
  simp only [List.mem_cons, List.not_mem_nil, or_false] at hx
  rcases hx with rfl | rfl
  · rfl
  · exact keyed_tup fun x hx => by
      obtain ⟨t, _, rfl⟩ := List.mem_map.mp hx
      exact keyed_ints t
/-- the unlike signs among A, rising -/
def SortS (A rs : List Sign) : Prop := SortU (A.map dsign) (rs.map dsign)
open Classical in
noncomputable def signsOf (A : List Sign) : List Sign := if h : ∃ rs, SortS A rs then h.choose else []
theorem signsOf_eq {A rs : List Sign} (h : SortS A rs) : signsOf A = rs := by
  have ex : ∃ rs, SortS A rs := ⟨rs, h⟩
  unfold signsOf
  rw [dif_pos ex]
  have e := sortU_eq (fun d hd => by
    obtain ⟨s, _, rfl⟩ := List.mem_map.mp hd
    exact keyed_sign s) (alike_signs A) ex.choose_spec h
  have := congrArg (List.map usign) e
  rw [List.map_map, List.map_map] at this
  have id : ∀ l : List Sign, l.map (usign ∘ dsign) = l := fun l => by
    conv => rhs; rw [← List.map_id l]
    exact List.map_congr_left fun s _ => usign_dsign s
  rwa [id, id] at this
theorem sortU_signs {A : List Sign} {rs : List D} (h : SortU (A.map dsign) rs) : ∃ S : List Sign, rs = S.map dsign ∧ SortS A S := by
  obtain ⟨S, e, _⟩ := dmap_of (g := dsign) (ys := rs) (P := fun _ _ => True) fun i y hy => by
    obtain ⟨s, _, rfl⟩ := List.mem_map.mp ((h.2.1 y).mp (List.mem_of_getElem? hy))
    exact ⟨s, rfl, trivial⟩
  exact ⟨S, e, by rw [SortS, ← e]; exact h⟩
theorem SignP.num {ms : List Int} {s : Sign} (h : SignP ms s) (hM : MsP ms) : Num 3 4000 (dsign s) := by
  have h1 : Num 2 1960 (dsays s.2) := (Num.tup (k := 1) (w := 48) fun x hx => by
    obtain ⟨t, ht, rfl⟩ := List.mem_map.mp hx
    exact (h.tie t ht).num hM).up (by omega) (by rw [List.length_map]; have := h.len; omega)
  refine (Num.tup (k := 2) (w := 1960) fun x hx => ?_).up (by omega) (by simp)
  simp only [List.mem_cons, List.not_mem_nil, or_false] at hx
  rcases hx with rfl | rfl
  · have := h.hue
    exact (num_int (by omega) (by omega)).up (by omega) (by omega)
  · exact h1
noncomputable def cnts (ms hs : List Int) (P : List Row) : List (Sign × Nat × Nat) :=
  (signsOf (sgns ms hs (P.map (·.1)) ++ sgns ms hs (P.map (·.2)))).map fun s =>
    (s, (sgns ms hs (P.map (·.1))).countP (fun a => cB (a = s)), (sgns ms hs (P.map (·.2))).countP fun a => cB (a = s))
abbrev dB4 (c : Sign × Nat × Nat) : D := .tup [.str sCount, dsign c.1, .int c.2.1, .int c.2.2]
noncomputable def cntBs (ms hs : List Int) (P : List Row) : List (Sign × Nat × Nat) := (cnts ms hs P).filter fun c => !decide (c.2.1 = c.2.2)
noncomputable def allBs (ms hs : List Int) (P : List Row) : List D :=
  if rowBs ms hs P = [] then (cntBs ms hs P).map dB4 else rowBs ms hs P
noncomputable def firstB (ms hs : List Int) (P : List Row) : D := ((allBs ms hs P).head?).getD .non
def preLbh (ds : List D) : Prop := ∃ (ms hs : List Int) (t u : Turn),
  ds = [.tup (dints ms), dturn t, dturn u] ∧ MsP ms ∧ hs.length ≤ 16 ∧
  TurnP ms hs t ∧ TurnP ms hs u
def fLbh : List D → D
  | [.tup ms, t, u] => dturn (behT (uints ms) (uturn t) (uturn u))
  | _ => .non
theorem fLbh_is (ms : List Int) (t u : Turn) :
    fLbh [.tup (dints ms), dturn t, dturn u] = dturn (behT ms t u) := by
  show dturn (behT (uints (dints ms)) (uturn (dturn t)) (uturn (dturn u))) = _
  rw [uints_dints, uturn_dturn, uturn_dturn]
theorem beh_row {ms : List Int} {t u : Turn} {i : Nat} (hi : i < t.1.length) :
    (behT ms t u).2[i]? = some (behRow ms t u i) := mkT_row hi
theorem beh_get {ms : List Int} {t u : Turn} {x c e : Nat} (hc : t.1[x]? = some c)
    (he : u.1[c]? = some e) : (behT ms t u).1[x]? = some e := by
  show (t.1.map fun c => u.1.getD c 0)[x]? = _
  rw [List.getElem?_map, hc]
  show some (u.1.getD c 0) = _
  rw [natD_of he]
theorem beh_assoc {ms hs : List Int} {t u v : Turn} (hM : MsP ms) (ht : TurnP ms hs t)
    (hu : TurnP ms hs u) (hv : TurnP ms hs v) :
    behT ms (behT ms t u) v = behT ms t (behT ms u v) := by
  have h1 := beh_turn hM ht hu
  have h2 := beh_turn hM hu hv
  refine turn_ext (beh_turn hM h1 hv) (beh_turn hM ht h2) ?_ fun i j hi hj => ?_
  · refine ext_of_get (by rw [(beh_turn hM h1 hv).lead.len, (beh_turn hM ht h2).lead.len])
      fun x y z e1 e2 => ?_
    have hx : x < hs.length := by
      have := (List.getElem?_eq_some_iff.mp e1).1
      rw [(beh_turn hM h1 hv).lead.len] at this
      exact this
    obtain ⟨c, hc, hc2⟩ := ht.lead.at hx
    obtain ⟨d, hd, hd2⟩ := hu.lead.at hc2
    obtain ⟨e, he, _⟩ := hv.lead.at hd2
    rw [beh_get (beh_get hc hd) he] at e1
    rw [beh_get hc (beh_get hd he)] at e2
    exact (Option.some.inj e1).symm.trans (Option.some.inj e2)
  · obtain ⟨c, hc, hc2⟩ := ht.lead.at hi
    obtain ⟨d, hd, hd2⟩ := ht.lead.at (b := j) (by omega)
    have hcd : c ≠ d := ht.lead.ne hc hd (by omega)
    obtain ⟨c', hc', hc2'⟩ := hu.lead.at hc2
    obtain ⟨d', hd', hd2'⟩ := hu.lead.at hd2
    have hcd' : c' ≠ d' := hu.lead.ne hc' hd' hcd
    have e : ∀ w : Turn, tt w.2 i j = tabT w.2 i j := fun w => (tabT_gt hj).symm
    rw [e, e, beh_tab h1 (beh_get hc hc') (beh_get hd hd') (by omega),
      beh_tab ht hc hd (by omega), beh_tab ht hc hd (by omega), beh_tab hu hc' hd' hcd]
    exact sum_assoc hM (tabT_tie ht.tab hi (by omega) (by omega)) (tabT_tie hu.tab hc2 hd2 hcd)
      (tabT_tie hv.tab hc2' hd2' hcd')
theorem back_beh {ms hs : List Int} {t : Turn} (hM : MsP ms) (ht : TurnP ms hs t) :
    behT ms (backT ms t) t = stillT ms hs.length := by
  have hb := back_turn hM ht
  have hc := back_turn hM hb
  have hx := beh_turn hM hb ht
  rw [← LeadP.still_beh hM hx, ← beh_back hM hb, beh_assoc hM hb ht (beh_turn hM hb hc),
    ← beh_assoc hM ht hb hc, beh_back hM ht, ← beh_assoc hM hb (still_turn hM) hc,
    LeadP.still_beh hM hb]
theorem still_beh2 {ms hs : List Int} {t : Turn} (hM : MsP ms) (ht : TurnP ms hs t) :
    behT ms (stillT ms hs.length) t = t := by
  have hb := back_turn hM ht
  rw [← beh_back hM ht, beh_assoc hM ht hb ht, back_beh hM ht, LeadP.still_beh hM ht]
structure LedRows (ms hs : List Int) (t : Turn) (P : List Row) : Prop where
  pl : ∀ r ∈ P, PlP ms hs.length r.1.1 r.1.2
  led : ∀ r ∈ P, r.2 = ledP ms t r.1
  nd : (P.map (·.1)).Nodup
theorem LedRows.row {ms hs : List Int} {t : Turn} {P : List Row} (hM : MsP ms) (ht : TurnP ms hs t) (h : LedRows ms hs t P) : ∀ r ∈ P, RowP ms hs.length r := fun r hr =>
  ⟨h.pl r hr, by rw [h.led r hr]; exact led_place hM ht (h.pl r hr)⟩
theorem LedRows.perm {ms hs : List Int} {t : Turn} {P Q : List Row} (h : LedRows ms hs t P) (p : Q.Perm P) : LedRows ms hs t Q :=
  ⟨fun r hr => h.pl r (p.mem_iff.mp hr), fun r hr => h.led r (p.mem_iff.mp hr), (p.map _).nodup_iff.mpr h.nd⟩
theorem PlP.put {ms : List Int} {n a c : Nat} {S : List (List Int)} {t : List Int} (h : PlP ms n a S) (hc : c ≠ a) (ht : TieP ms t) : PlP ms n a (S.set c t) := by
  refine ⟨h.lt, by rw [List.length_set]; exact h.len, fun u hu => ?_, by rw [List.getElem?_set_ne hc]; exact h.own⟩
  rcases List.mem_or_eq_of_mem_set hu with z | rfl
  · exact h.tie u z
  · exact ht
def sd (s : Nat) (r : Row) : Spot := if s = 0 then r.1 else r.2
/-- the rows behind the first one of their stem, with that one's number -/
def idxOf1 (L : List Spot) (a : Nat) : Nat := L.findIdx fun p => decide (p.1 = a)
noncomputable def ledN (P : List Row) (c : Nat) : List (Nat × Nat) :=
  ((List.range c).filter fun i => decide (idxOf1 (P.map (·.1)) (rowAt P i).1.1 < i)).map fun i => (i, idxOf1 (P.map (·.1)) (rowAt P i).1.1)
noncomputable def gapsN (ms : List Int) (P : List Row) (s x : Nat) : List (List Int) :=
  (ledN P P.length).map fun p => lessF ms ((sd s (rowAt P p.1)).2.getD x []) ((sd s (rowAt P p.2)).2.getD x [])
theorem idx_le {L : List Spot} {i : Nat} {p : Spot} (h : L[i]? = some p) : idxOf1 L p.1 ≤ i := by
  refine Nat.le_of_not_lt fun z => ?_
  obtain ⟨hi, e⟩ := List.getElem?_eq_some_iff.mp h
  have := List.not_of_lt_findIdx (p := fun q : Spot => decide (q.1 = p.1)) z
  rw [e] at this
  simp at this
theorem idx_at {L : List Spot} {a : Nat} (h : idxOf1 L a < L.length) : ∃ p, L[idxOf1 L a]? = some p ∧ p.1 = a := by
  have := List.findIdx_getElem (p := fun q : Spot => decide (q.1 = a)) (w := h)
  exact ⟨_, List.getElem?_eq_getElem h, of_decide_eq_true this⟩
theorem find_idx (L : List Spot) (a : Nat) : firstOf L a = L[idxOf1 L a]? := by
  induction L with
  | nil => rfl
  | cons p L ih =>
    unfold firstOf idxOf1
    rw [List.find?_cons, List.findIdx_cons]
    by_cases h : p.1 = a
    · rw [decide_eq_true h]; rfl
    · rw [decide_eq_false h]
      exact ih
theorem map_range {α β : Type} (f : α → β) (L : List α) (d : α) : L.map f = (List.range L.length).map fun i => f (L.getD i d) := by
  apply List.ext_getElem
  · simp
  · intro i h1 h2
    rw [List.length_map] at h1
    simp [List.getD_eq_getElem?_getD, List.getElem?_eq_getElem h1]
theorem filter_range {α : Type} (p : α → Bool) (L : List α) (d : α) : L.filter p = ((List.range L.length).filter fun i => p (L.getD i d)).map fun i => L.getD i d := by
  have e : L = (List.range L.length).map fun i => L.getD i d := by
    have := map_range (fun x => x) L d
    rwa [List.map_id'] at this
  conv => lhs; rw [e]
  rw [List.filter_map]
  rfl
theorem sd_at (P : List Row) (s i : Nat) (h : i < P.length) : (P.map (sd s)).getD i (0, []) = sd s (rowAt P i) := by
  rw [List.getD_eq_getElem?_getD, List.getElem?_map, rowAt_get h]
  rfl
theorem stem_same {ms hs : List Int} {P : List Row} (h : rowBs ms hs P = []) : ∀ i j, i < P.length → j < P.length → ((rowAt P i).1.1 = (rowAt P j).1.1 ↔ (rowAt P i).2.1 = (rowAt P j).2.1) := by
  have hs : stemBs P = [] := by
    unfold rowBs at h
    rw [List.append_eq_nil_iff, List.append_eq_nil_iff] at h
    exact List.map_eq_nil_iff.mp h.1.2
  have key : ∀ i j, i < j → j < P.length → ((rowAt P i).1.1 = (rowAt P j).1.1 ↔ (rowAt P i).2.1 = (rowAt P j).2.1) := by
    intro i j hij hj
    have := List.filter_eq_nil_iff.mp hs (i, j) (mem_pairsN.mpr ⟨hij, hj⟩)
    unfold stemB at this
    simp only [Bool.not_eq_true, Bool.not_eq_false', decide_eq_true_eq, decide_eq_decide] at this
    exact this
  intro i j hi hj
  rcases Nat.lt_trichotomy i j with z | z | z
  · exact key i j z hj
  · subst z; exact ⟨fun _ => rfl, fun _ => rfl⟩
  · have := key j i z hi
    exact ⟨fun e => (this.mp e.symm).symm, fun e => (this.mpr e.symm).symm⟩
theorem idx_same {ms hs : List Int} {P : List Row} (h : rowBs ms hs P = []) {s i : Nat} (hs : s < 2) (hi : i < P.length) :
    idxOf1 (P.map (sd s)) (sd s (rowAt P i)).1 = idxOf1 (P.map (·.1)) (rowAt P i).1.1 := by
  have : s = 0 ∨ s = 1 := by omega
  rcases this with rfl | rfl
  · rfl
  · have key : ∀ (Q : List Row), (∀ r ∈ Q, ((rowAt P i).1.1 = r.1.1 ↔ (rowAt P i).2.1 = r.2.1)) → idxOf1 (Q.map (sd 1)) (rowAt P i).2.1 = idxOf1 (Q.map (·.1)) (rowAt P i).1.1 := by
      intro Q
      induction Q with
      | nil => intro _; rfl
      | cons r Q ih =>
        intro hq
        have e := hq r List.mem_cons_self
        have := ih fun r hr => hq r (List.mem_cons_of_mem _ hr)
        unfold idxOf1 at this ⊢
        rw [List.map_cons, List.map_cons, List.findIdx_cons, List.findIdx_cons, this]
        have e2 : decide ((sd 1 r).1 = (rowAt P i).2.1) = decide (r.1.1 = (rowAt P i).1.1) := by
          rw [decide_eq_decide]
          exact ⟨fun z => (e.mpr z.symm).symm, fun z => (e.mp z.symm).symm⟩
        rw [e2]
    refine key P fun r hr => ?_
    obtain ⟨j, hj⟩ := List.getElem?_of_mem hr
    have hj2 := (List.getElem?_eq_some_iff.mp hj).1
    rw [← rowAt_of hj]
    exact stem_same h i j hi hj2
theorem diffs_gaps {ms hs : List Int} {P : List Row} (h : rowBs ms hs P = []) {s : Nat} (hs : s < 2) (nd : (P.map (sd s)).Nodup) (x : Nat) :
    diffs ms (P.map (sd s)) x = gapsN ms P s x := by
  unfold diffs gapsN ledN
  rw [filter_range _ (P.map (sd s)) (0, []), List.map_map, List.map_map, List.length_map]
  have e1 : ∀ i ∈ List.range P.length, (!cB (firstOf (P.map (sd s)) ((P.map (sd s)).getD i (0, [])).1 = some ((P.map (sd s)).getD i (0, [])))) = decide (idxOf1 (P.map (·.1)) (rowAt P i).1.1 < i) := by
    intro i hi
    have hi := List.mem_range.mp hi
    have hg : (P.map (sd s))[i]? = some (sd s (rowAt P i)) := by rw [List.getElem?_map, rowAt_get hi]; rfl
    have le := idx_le hg
    rw [sd_at P s i hi, find_idx, idx_same h hs hi] at *
    by_cases z : idxOf1 (P.map (·.1)) (rowAt P i).1.1 < i
    · rw [decide_eq_true z, cB_false]
      · rfl
      · intro e
        have l1 : idxOf1 (P.map (·.1)) (rowAt P i).1.1 < (P.map (sd s)).length := by rw [List.length_map]; omega
        have l2 : i < (P.map (sd s)).length := by rw [List.length_map]; exact hi
        have := (List.getElem?_inj l1 nd).mp (e.trans hg.symm)
        omega
    · rw [decide_eq_false z, cB_true]
      · rfl
      · rw [show idxOf1 (P.map (·.1)) (rowAt P i).1.1 = i by omega]
        exact hg
  rw [List.filter_congr e1]
  refine List.map_congr_left fun i hi => ?_
  have hi := List.mem_range.mp (List.mem_filter.mp hi).1
  have hg : (P.map (sd s))[i]? = some (sd s (rowAt P i)) := by rw [List.getElem?_map, rowAt_get hi]; rfl
  have le := idx_le hg
  rw [idx_same h hs hi] at le
  show lessF ms (((P.map (sd s)).getD i (0, [])).2.getD x []) (((firstOf (P.map (sd s)) ((P.map (sd s)).getD i (0, [])).1).getD (0, [])).2.getD x []) = lessF ms ((sd s (rowAt P i)).2.getD x []) ((sd s (rowAt P (idxOf1 (P.map (·.1)) (rowAt P i).1.1))).2.getD x [])
  rw [sd_at P s i hi, find_idx, idx_same h hs hi, List.getElem?_map, rowAt_get (show idxOf1 (P.map (·.1)) (rowAt P i).1.1 < P.length by omega)]
  rfl
def toldN (P : List Row) (s : Nat) : List Nat := P.map fun r => (sd s r).1
def freeN (hs : List Int) (P : List Row) (s : Nat) : List Nat := (List.range hs.length).filter fun x => !(toldN P s).contains x
noncomputable def sgN (ms hs : List Int) (P : List Row) (s : Nat) : List Sign := (freeN hs P s).map fun x => (hs.getD x 0, gapsN ms P s x)
theorem sgns_side {ms hs : List Int} {P : List Row} (h : rowBs ms hs P = []) {s : Nat} (hs2 : s < 2) (nd : (P.map (sd s)).Nodup) :
    sgns ms hs (P.map (sd s)) = sgN ms hs P s := by
  have ez : hs.zipIdx = (List.range hs.length).map fun x => (hs.getD x 0, x) := by
    apply List.ext_getElem
    · simp
    · intro i h1 h2
      rw [List.length_zipIdx] at h1
      simp [List.getD_eq_getElem?_getD, List.getElem?_eq_getElem h1]
  unfold sgns frees sgN freeN
  rw [ez, List.filter_map, List.map_map, List.map_map]
  have e1 : ∀ x ∈ List.range hs.length, ((fun a : Int × Nat => !(firstOf (P.map (sd s)) a.2).isSome) ∘ fun x => (hs.getD x 0, x)) x = !(toldN P s).contains x := by
    intro x _
    show (!(firstOf (P.map (sd s)) x).isSome) = !(toldN P s).contains x
    congr 1
    rw [Bool.eq_iff_iff, List.contains_iff_mem]
    unfold firstOf toldN
    rw [List.find?_isSome]
    constructor
    · rintro ⟨p, hp, e⟩
      obtain ⟨r, hr, rfl⟩ := List.mem_map.mp hp
      exact List.mem_map.mpr ⟨r, hr, of_decide_eq_true e⟩
    · intro hx
      obtain ⟨r, hr, e⟩ := List.mem_map.mp hx
      exact ⟨sd s r, List.mem_map.mpr ⟨r, hr, rfl⟩, decide_eq_true e⟩
  rw [List.filter_congr e1]
  refine List.map_congr_left fun x _ => ?_
  show (hs.getD x 0, diffs ms (P.map (sd s)) x) = (hs.getD x 0, gapsN ms P s x)
  rw [diffs_gaps h hs2 nd]
theorem inV_nats (L : List Nat) (x : Nat) : inV (V.int x) ((L.map fun y => D.int (y : Nat)).map D.v) = L.contains x := by
  unfold inV
  rw [List.map_map, List.any_map, List.contains_eq_any_beq]
  congr 1
  funext y
  show ((y : Int) == (x : Int)) = (x == y)
  rw [Bool.eq_iff_iff, beq_iff_eq, beq_iff_eq]
  omega
theorem sd_pl {ms : List Int} {n : Nat} {r : Row} (h : RowP ms n r) (c : Nat) : PlP ms n (sd c r).1 (sd c r).2 := by
  unfold sd
  split
  · exact h.fst
  · exact h.snd
theorem perm_pairs {α β γ : Type} {f : α → γ} {g : β → γ} : ∀ {A : List α} {B : List β}, (A.map f).Perm (B.map g) →
    ∃ l : List (α × β), (l.map (·.1)).Perm A ∧ (l.map (·.2)).Perm B ∧ ∀ p ∈ l, f p.1 = g p.2
  | [], B, h => by
    have : B.map g = [] := h.nil_eq.symm ▸ rfl
    rw [List.map_eq_nil_iff] at this
    subst this
    exact ⟨[], .refl _, .refl _, fun _ z => nomatch z⟩
  | a :: A, B, h => by
    have hm : f a ∈ B.map g := h.mem_iff.mp (by rw [List.map_cons]; exact List.mem_cons_self)
    obtain ⟨b, hb, e⟩ := List.mem_map.mp hm
    obtain ⟨B1, B2, rfl⟩ := List.append_of_mem hb
    have h2 : (f a :: A.map f).Perm (f a :: (B1 ++ B2).map g) := by
      rw [List.map_cons] at h
      refine h.trans ?_
      rw [← e]
      exact (List.perm_middle (a := b) (l₁ := B1) (l₂ := B2)).map g
    obtain ⟨l, l1, l2, l3⟩ := perm_pairs (A := A) (B := B1 ++ B2) h2.cons_inv
    refine ⟨(a, b) :: l, l1.cons a, (l2.cons b).trans List.perm_middle.symm, fun p hp => ?_⟩
    rcases List.mem_cons.mp hp with rfl | hp
    · exact e.symm
    · exact l3 p hp
theorem perm_transfer {α β γ δ : Type} {f : α → γ} {g : β → γ} {f' : α → δ} {g' : β → δ} {A : List α} {B : List β}
    (h : ∀ x ∈ A, ∀ y ∈ B, f x = g y → f' x = g' y) (p : (A.map f).Perm (B.map g)) : (A.map f').Perm (B.map g') := by
  obtain ⟨l, l1, l2, l3⟩ := perm_pairs p
  have e : l.map (fun q => f' q.1) = l.map fun q => g' q.2 := List.map_congr_left fun q hq =>
    h q.1 (l1.mem_iff.mp (List.mem_map.mpr ⟨q, hq, rfl⟩)) q.2 (l2.mem_iff.mp (List.mem_map.mpr ⟨q, hq, rfl⟩)) (l3 q hq)
  have e1 : (l.map (·.1)).map f' = l.map fun q => f' q.1 := by rw [List.map_map]; rfl
  have e2 : (l.map (·.2)).map g' = l.map fun q => g' q.2 := by rw [List.map_map]; rfl
  exact (l1.symm.map f').trans (by rw [e1, e, ← e2]; exact l2.map g')
theorem less_less {ms x y z : List Int} (hM : MsP ms) (hx : TieP ms x) (hy : TieP ms y) (hz : TieP ms z) :
    lessF ms (lessF ms x z) (lessF ms y z) = lessF ms x y := by
  refine tie_ext (less_tie hM (less_tie hM hx hz) (less_tie hM hy hz)).1 (less_tie hM hx hy).1 fun c m em => ?_
  obtain ⟨a, ea, _⟩ := tget hx em
  obtain ⟨b, eb, _⟩ := tget hy em
  obtain ⟨d, ed, _⟩ := tget hz em
  rw [less_get em (less_get em ea ed) (less_get em eb ed), less_get em ea eb]
  congr 1
  rw [Int.sub_emod, Int.emod_emod_of_dvd _ (Int.dvd_refl m), Int.emod_emod_of_dvd _ (Int.dvd_refl m), ← Int.sub_emod]
  congr 1
  omega
theorem less_same {ms x y : List Int} (hM : MsP ms) (hx : TieP ms x) (hy : TieP ms y) : lessF ms x x = lessF ms y y := by
  refine tie_ext (less_tie hM hx hx).1 (less_tie hM hy hy).1 fun c m em => ?_
  obtain ⟨a, ea, _⟩ := tget hx em
  obtain ⟨b, eb, _⟩ := tget hy em
  rw [less_get em ea ea, less_get em eb eb]
  congr 1
  rw [Int.sub_self, Int.sub_self]
structure Good (ms hs : List Int) (P : List Row) : Prop where
  hue : ∀ r ∈ P, hs.getD r.1.1 0 = hs.getD r.2.1 0
  stem : ∀ r ∈ P, ∀ q ∈ P, (r.1.1 = q.1.1 ↔ r.2.1 = q.2.1)
  tie : ∀ r ∈ P, ∀ q ∈ P, r.1.1 ≠ q.1.1 →
    lessF ms (r.1.2.getD q.1.1 []) (q.1.2.getD r.1.1 []) = lessF ms (r.2.2.getD q.2.1 []) (q.2.2.getD r.2.1 [])
theorem says_tie {ms : List Int} {n a x : Nat} {S : List (List Int)} (h : PlP ms n a S) (hx : x < n) : TieP ms (S.getD x []) := by
  obtain ⟨t, et⟩ := says_get (c := x) h.len hx
  rw [getD_of et]
  exact h.tie t (List.mem_of_getElem? et)
theorem good_iff {ms hs : List Int} {P : List Row} (hM : MsP ms) (hP : ∀ r ∈ P, RowP ms hs.length r) : rowBs ms hs P = [] ↔ Good ms hs P := by
  have split : rowBs ms hs P = [] ↔ hueBs hs P = [] ∧ stemBs P = [] ∧ tieBs ms P = [] := by
    unfold rowBs
    rw [List.append_eq_nil_iff, List.append_eq_nil_iff, List.map_eq_nil_iff, List.map_eq_nil_iff, List.map_eq_nil_iff, and_assoc]
  rw [split]
  have at2 : ∀ r ∈ P, ∃ i, i < P.length ∧ rowAt P i = r := fun r hr => by
    obtain ⟨i, hi⟩ := List.getElem?_of_mem hr
    exact ⟨i, (List.getElem?_eq_some_iff.mp hi).1, rowAt_of hi⟩
  have mem2 : ∀ i, i < P.length → rowAt P i ∈ P := fun i hi => List.mem_of_getElem? (rowAt_get hi)
  constructor
  · rintro ⟨h1, h2, h3⟩
    have hst : ∀ r ∈ P, ∀ q ∈ P, (r.1.1 = q.1.1 ↔ r.2.1 = q.2.1) := fun r hr q hq => by
      obtain ⟨i, hi, rfl⟩ := at2 r hr
      obtain ⟨j, hj, rfl⟩ := at2 q hq
      have key : ∀ i j, i < j → j < P.length → ((rowAt P i).1.1 = (rowAt P j).1.1 ↔ (rowAt P i).2.1 = (rowAt P j).2.1) := by
        intro i j hij hj
        have := List.filter_eq_nil_iff.mp h2 (i, j) (mem_pairsN.mpr ⟨hij, hj⟩)
        unfold stemB at this
        simp only [Bool.not_eq_true, Bool.not_eq_false', decide_eq_true_eq, decide_eq_decide] at this
        exact this
      rcases Nat.lt_trichotomy i j with z | z | z
      · exact key i j z hj
      · subst z; exact ⟨fun _ => rfl, fun _ => rfl⟩
      · have := key j i z hi
        exact ⟨fun e => (this.mp e.symm).symm, fun e => (this.mpr e.symm).symm⟩
    refine ⟨fun r hr => ?_, hst, fun r hr q hq hne => ?_⟩
    · obtain ⟨i, hi⟩ := List.getElem?_of_mem hr
      have h1 : P.zipIdx.filter (fun a => hueB hs a.1) = [] := List.map_eq_nil_iff.mp h1
      have := List.filter_eq_nil_iff.mp h1 (r, i) (List.mem_of_getElem? (i := i) (by rw [List.getElem?_zipIdx, hi]; simp))
      unfold hueB at this
      simpa using this
    · obtain ⟨i, hi, rfl⟩ := at2 r hr
      obtain ⟨j, hj, rfl⟩ := at2 q hq
      have key : ∀ i j, i < j → j < P.length → (rowAt P i).1.1 ≠ (rowAt P j).1.1 →
          lessF ms ((rowAt P i).1.2.getD (rowAt P j).1.1 []) ((rowAt P j).1.2.getD (rowAt P i).1.1 []) = lessF ms ((rowAt P i).2.2.getD (rowAt P j).2.1 []) ((rowAt P j).2.2.getD (rowAt P i).2.1 []) := by
        intro i j hij hj hne
        have := List.filter_eq_nil_iff.mp h3 (i, j) (mem_pairsN.mpr ⟨hij, hj⟩)
        unfold tieB2 at this
        have hne2 : (rowAt P i).2.1 ≠ (rowAt P j).2.1 := fun e => hne ((hst _ (mem2 i (by omega)) _ (mem2 j hj)).mpr e)
        rw [decide_eq_false hne, decide_eq_false hne2] at this
        simpa using this
      rcases Nat.lt_trichotomy i j with z | z | z
      · exact key i j z hj hne
      · subst z; exact absurd rfl hne
      · have := key j i z hi (Ne.symm hne)
        have pi := hP _ (mem2 i hi)
        have pj := hP _ (mem2 j hj)
        have t1 := says_tie pi.fst pj.fst.lt
        have t2 := says_tie pj.fst pi.fst.lt
        have t3 := says_tie pi.snd pj.snd.lt
        have t4 := says_tie pj.snd pi.snd.lt
        rw [← less_neg hM t2 t1, this, less_neg hM t4 t3]
  · intro g
    refine ⟨?_, ?_, ?_⟩
    · unfold hueBs
      rw [List.map_eq_nil_iff, List.filter_eq_nil_iff]
      intro a ha
      obtain ⟨i, hi⟩ := List.getElem?_of_mem ha
      rw [List.getElem?_zipIdx, Option.map_eq_some_iff] at hi
      obtain ⟨v, e1, rfl⟩ := hi
      have := g.hue v (List.mem_of_getElem? e1)
      unfold hueB
      simpa using this
    · refine List.filter_eq_nil_iff.mpr fun p hp => ?_
      obtain ⟨h1, h2⟩ := mem_pairsN.mp hp
      have := g.stem _ (mem2 p.1 (by omega)) _ (mem2 p.2 h2)
      unfold stemB
      simp only [Bool.not_eq_true, Bool.not_eq_false', decide_eq_true_eq, decide_eq_decide]
      exact this
    · refine List.filter_eq_nil_iff.mpr fun p hp => ?_
      obtain ⟨h1, h2⟩ := mem_pairsN.mp hp
      unfold tieB2
      by_cases e : (rowAt P p.1).1.1 = (rowAt P p.2).1.1
      · rw [decide_eq_true e]; simp
      · have := g.tie _ (mem2 p.1 (by omega)) _ (mem2 p.2 h2) e
        rw [decide_eq_true this]
        simp
def Rel (ms hs : List Int) (P : List Row) (s x s' y : Nat) : Prop := hs.getD x 0 = hs.getD y 0 ∧ ∀ r ∈ P, ∀ q ∈ P, r.1.1 = q.1.1 →
  lessF ms ((sd s r).2.getD x []) ((sd s q).2.getD x []) = lessF ms ((sd s' r).2.getD y []) ((sd s' q).2.getD y [])
noncomputable def sgA (ms hs : List Int) (P : List Row) (s x : Nat) : Sign := (hs.getD x 0, gapsN ms P s x)
theorem sg_rel {ms hs : List Int} {P : List Row} (hM : MsP ms) (hP : ∀ r ∈ P, RowP ms hs.length r) {s x s' y : Nat} (hx : x < hs.length) (hy : y < hs.length) :
    sgA ms hs P s x = sgA ms hs P s' y ↔ Rel ms hs P s x s' y := by
  have at2 : ∀ r ∈ P, ∃ i, P[i]? = some r ∧ rowAt P i = r ∧ i < P.length := fun r hr => by
    obtain ⟨i, hi⟩ := List.getElem?_of_mem hr
    exact ⟨i, hi, rowAt_of hi, (List.getElem?_eq_some_iff.mp hi).1⟩
  have tx : ∀ r ∈ P, TieP ms ((sd s r).2.getD x []) := fun r hr => says_tie (sd_pl (hP r hr) s) hx
  have ty : ∀ r ∈ P, TieP ms ((sd s' r).2.getD y []) := fun r hr => says_tie (sd_pl (hP r hr) s') hy
  constructor
  · intro e
    have e1 : hs.getD x 0 = hs.getD y 0 := congrArg Prod.fst e
    have e2 : gapsN ms P s x = gapsN ms P s' y := congrArg Prod.snd e
    have all := List.map_inj_left.mp e2
    refine ⟨e1, fun r hr q hq hst => ?_⟩
    -- against the first row of the stem
    obtain ⟨k, hk⟩ : ∃ k, k = idxOf1 (P.map (·.1)) r.1.1 := ⟨_, rfl⟩
    have fst : ∀ q ∈ P, q.1.1 = r.1.1 → k < P.length ∧ lessF ms ((sd s q).2.getD x []) ((sd s (rowAt P k)).2.getD x []) = lessF ms ((sd s' q).2.getD y []) ((sd s' (rowAt P k)).2.getD y []) := fun q hq hst => by
      obtain ⟨i, hi, ei, hil⟩ := at2 q hq
      have hi' : (P.map (·.1))[i]? = some q.1 := by rw [List.getElem?_map, hi]; rfl
      have le := idx_le hi'
      rw [hst, ← hk] at le
      refine ⟨by omega, ?_⟩
      by_cases z : k < i
      · have hm : (i, k) ∈ ledN P P.length := by
          refine List.mem_map.mpr ⟨i, List.mem_filter.mpr ⟨List.mem_range.mpr hil, ?_⟩, ?_⟩
          · rw [ei, hst, ← hk]; exact decide_eq_true z
          · rw [ei, hst, ← hk]
        have := all (i, k) hm
        rw [show rowAt P (i, k).1 = q from ei] at this
        exact this
      · have : k = i := by omega
        rw [this, ei]
        exact less_same hM (tx q hq) (ty q hq)
    obtain ⟨hkl, f1⟩ := fst r hr rfl
    obtain ⟨_, f2⟩ := fst q hq hst.symm
    have hkm : rowAt P k ∈ P := List.mem_of_getElem? (rowAt_get hkl)
    rw [← less_less hM (tx r hr) (tx q hq) (tx _ hkm), f1, f2, less_less hM (ty r hr) (ty q hq) (ty _ hkm)]
  · rintro ⟨e1, e2⟩
    unfold sgA
    rw [e1]
    congr 1
    refine List.map_inj_left.mpr fun p hp => ?_
    obtain ⟨i, hi, rfl⟩ := List.mem_map.mp hp
    rw [List.mem_filter, List.mem_range, decide_eq_true_eq] at hi
    obtain ⟨h1, h2⟩ := hi
    have m1 : rowAt P i ∈ P := List.mem_of_getElem? (rowAt_get h1)
    have m2 : rowAt P (idxOf1 (P.map (·.1)) (rowAt P i).1.1) ∈ P := List.mem_of_getElem? (rowAt_get (by omega))
    refine e2 _ m1 _ m2 ?_
    obtain ⟨p, ep, e⟩ := idx_at (L := P.map (·.1)) (a := (rowAt P i).1.1) (by rw [List.length_map]; omega)
    rw [List.getElem?_map, rowAt_get (show idxOf1 (P.map (·.1)) (rowAt P i).1.1 < P.length by omega)] at ep
    have : (rowAt P (idxOf1 (P.map (·.1)) (rowAt P i).1.1)).1 = p := Option.some.inj ep
    rw [this, e]
theorem sgN_map (ms hs : List Int) (P : List Row) (s : Nat) : sgN ms hs P s = (freeN hs P s).map (sgA ms hs P s) := rfl
theorem free_mem {hs : List Int} {P : List Row} {s x : Nat} : x ∈ freeN hs P s ↔ x < hs.length ∧ ∀ r ∈ P, (sd s r).1 ≠ x := by
  unfold freeN toldN
  rw [List.mem_filter, List.mem_range]
  simp only [Bool.not_eq_true', List.contains_eq_mem, decide_eq_false_iff_not, List.mem_map, not_exists, not_and]
theorem free_nd (hs : List Int) (P : List Row) (s : Nat) : (freeN hs P s).Nodup := List.nodup_range.filter _
theorem ex_dedup {α : Type} : ∀ A : List α, ∃ B : List α, B.Nodup ∧ ∀ x, x ∈ B ↔ x ∈ A
  | [] => ⟨[], .nil, fun _ => Iff.rfl⟩
  | a :: A => by
    obtain ⟨B, h1, h2⟩ := ex_dedup A
    by_cases h : a ∈ A
    · exact ⟨B, h1, fun x => ⟨fun z => List.mem_cons_of_mem _ ((h2 x).mp z), fun z => by
        rcases List.mem_cons.mp z with rfl | z
        · exact (h2 _).mpr h
        · exact (h2 x).mpr z⟩⟩
    · exact ⟨a :: B, List.nodup_cons.mpr ⟨fun z => h ((h2 a).mp z), h1⟩, fun x => by rw [List.mem_cons, List.mem_cons, h2]⟩
theorem ex_sortS (A : List Sign) : ∃ rs, SortS A rs := by
  obtain ⟨B, h1, h2⟩ := ex_dedup A
  have su : SortU (A.map dsign) ((B.map dsign).mergeSort leD) := by
    refine ⟨(List.mergeSort_perm _ _).nodup_iff.mpr ?_, fun d => ?_, ?_⟩
    · unfold List.Nodup at h1 ⊢
      rw [List.pairwise_map]
      exact h1.imp fun z e => z (dsign_inj e)
    · rw [List.mem_mergeSort, List.mem_map, List.mem_map]
      exact ⟨fun ⟨s, hs, e⟩ => ⟨s, (h2 s).mp hs, e⟩, fun ⟨s, hs, e⟩ => ⟨s, (h2 s).mpr hs, e⟩⟩
    · exact List.pairwise_mergeSort ((fun a b c h1 h2 => (PySem.W.sortLe_total _ false _).trans a b c h1 h2)) (fun a b => by rw [Bool.or_eq_true]; exact (PySem.W.sortLe_total _ false _).total a b) _
  obtain ⟨S, _, sS⟩ := sortU_signs su
  exact ⟨S, sS⟩
theorem signsOf_mem (A : List Sign) (s : Sign) : s ∈ signsOf A ↔ s ∈ A := by
  obtain ⟨rs, h⟩ := ex_sortS A
  rw [signsOf_eq h]
  have := h.2.1 (dsign s)
  rw [List.mem_map, List.mem_map] at this
  constructor
  · intro z
    obtain ⟨t, ht, e⟩ := this.mp ⟨s, z, rfl⟩
    rw [← dsign_inj e]
    exact ht
  · intro z
    obtain ⟨t, ht, e⟩ := this.mpr ⟨s, z, rfl⟩
    rw [← dsign_inj e]
    exact ht
theorem countP_cB (A : List Sign) (s : Sign) : A.countP (fun a => cB (a = s)) = A.count s := by
  rw [List.count_eq_countP]
  refine List.countP_congr fun a _ => ?_
  rw [beq_iff_eq]
  exact ⟨fun h => Classical.byContradiction fun z => (by rw [cB_false z] at h; cases h), fun h => cB_true h⟩
theorem goes_iff {ms hs : List Int} {P : List Row} (hM : MsP ms) (hP : ∀ r ∈ P, RowP ms hs.length r) (nd1 : (P.map (·.1)).Nodup) (nd2 : (P.map (·.2)).Nodup) :
    allBs ms hs P = [] ↔ Good ms hs P ∧ (sgN ms hs P 0).Perm (sgN ms hs P 1) := by
  rw [← good_iff hM hP]
  by_cases h : rowBs ms hs P = []
  · have q0 : sgns ms hs (P.map (·.1)) = sgN ms hs P 0 := sgns_side h (s := 0) (by omega) nd1
    have q1 : sgns ms hs (P.map (·.2)) = sgN ms hs P 1 := sgns_side h (s := 1) (by omega) nd2
    unfold allBs cntBs cnts
    rw [if_pos h, List.map_eq_nil_iff, List.filter_eq_nil_iff, q0, q1, List.perm_iff_count]
    refine ⟨fun z => ⟨h, fun s => ?_⟩, fun z c hc => ?_⟩
    · by_cases hs2 : s ∈ sgN ms hs P 0 ++ sgN ms hs P 1
      · have := z _ (List.mem_map.mpr ⟨s, (signsOf_mem _ s).mpr hs2, rfl⟩)
        rw [countP_cB, countP_cB] at this
        simpa using this
      · rw [List.mem_append, not_or] at hs2
        rw [List.count_eq_zero.mpr hs2.1, List.count_eq_zero.mpr hs2.2]
    · obtain ⟨s, _, rfl⟩ := List.mem_map.mp hc
      rw [countP_cB, countP_cB, z.2 s]
      simp
  · unfold allBs
    rw [if_neg h]
    exact ⟨fun z => absurd z h, fun z => absurd z.1 h⟩
abbrev ledR (ms : List Int) (t u : Turn) (r : Row) : Row := (ledP ms t r.1, ledP ms u r.2)
def ldS (t u : Turn) (s x : Nat) : Nat := if s = 0 then t.1.getD x 0 else u.1.getD x 0
theorem led_stem1 {ms hs : List Int} {t : Turn} {p : Spot} (ht : TurnP ms hs t) (hp : PlP ms hs.length p.1 p.2) : t.1[p.1]? = some (ledP ms t p).1 := by
  obtain ⟨c, hc, _⟩ := ht.lead.at hp.lt
  rw [hc, show (ledP ms t p).1 = c from natD_of hc]
theorem hue_led {ms hs : List Int} {t : Turn} (ht : TurnP ms hs t) {x c : Nat} (h : t.1[x]? = some c) : hs.getD c 0 = hs.getD x 0 := by
  rw [List.getD_eq_getElem?_getD, List.getD_eq_getElem?_getD, (ht.lead.hue x c h).2]
theorem good_led1 {ms hs : List Int} {t u : Turn} {P P' : List Row} (hM : MsP ms) (ht : TurnP ms hs t) (hu : TurnP ms hs u) (hP : ∀ r ∈ P, RowP ms hs.length r)
    (hm : ∀ r', r' ∈ P' ↔ ∃ r ∈ P, r' = ledR ms t u r) : Good ms hs P' ↔ Good ms hs P := by
  have tie : ∀ r ∈ P, ∀ q ∈ P, r.1.1 ≠ q.1.1 → r.2.1 ≠ q.2.1 →
      (lessF ms ((ledP ms t r.1).2.getD (ledP ms t q.1).1 []) ((ledP ms t q.1).2.getD (ledP ms t r.1).1 []) = lessF ms (r.1.2.getD q.1.1 []) (q.1.2.getD r.1.1 [])) ∧
      (lessF ms ((ledP ms u r.2).2.getD (ledP ms u q.2).1 []) ((ledP ms u q.2).2.getD (ledP ms u r.2).1 []) = lessF ms (r.2.2.getD q.2.1 []) (q.2.2.getD r.2.1 [])) := fun r hr q hq h1 h2 =>
    ⟨led_tie hM ht (hP r hr).fst (hP q hq).fst h1 (led_stem1 ht (hP r hr).fst) (led_stem1 ht (hP q hq).fst),
      led_tie hM hu (hP r hr).snd (hP q hq).snd h2 (led_stem1 hu (hP r hr).snd) (led_stem1 hu (hP q hq).snd)⟩
  have st1 : ∀ r ∈ P, ∀ q ∈ P, ((ledP ms t r.1).1 = (ledP ms t q.1).1 ↔ r.1.1 = q.1.1) := fun r hr q hq => led_stem ht (hP r hr).fst (hP q hq).fst
  have st2 : ∀ r ∈ P, ∀ q ∈ P, ((ledP ms u r.2).1 = (ledP ms u q.2).1 ↔ r.2.1 = q.2.1) := fun r hr q hq => led_stem hu (hP r hr).snd (hP q hq).snd
  have h1 : ∀ r ∈ P, hs.getD (ledP ms t r.1).1 0 = hs.getD r.1.1 0 := fun r hr => hue_led ht (led_stem1 ht (hP r hr).fst)
  have h2 : ∀ r ∈ P, hs.getD (ledP ms u r.2).1 0 = hs.getD r.2.1 0 := fun r hr => hue_led hu (led_stem1 hu (hP r hr).snd)
  constructor
  · intro g
    have gst : ∀ r ∈ P, ∀ q ∈ P, (r.1.1 = q.1.1 ↔ r.2.1 = q.2.1) := fun r hr q hq => by
      have := g.stem _ ((hm _).mpr ⟨r, hr, rfl⟩) _ ((hm _).mpr ⟨q, hq, rfl⟩)
      rwa [st1 r hr q hq, st2 r hr q hq] at this
    refine ⟨fun r hr => ?_, gst, fun r hr q hq hne => ?_⟩
    · have := g.hue _ ((hm _).mpr ⟨r, hr, rfl⟩)
      rwa [h1 r hr, h2 r hr] at this
    · have hne2 : r.2.1 ≠ q.2.1 := fun e => hne ((gst r hr q hq).mpr e)
      obtain ⟨a, b⟩ := tie r hr q hq hne hne2
      have := g.tie _ ((hm _).mpr ⟨r, hr, rfl⟩) _ ((hm _).mpr ⟨q, hq, rfl⟩) (fun e => hne ((st1 r hr q hq).mp e))
      rwa [a, b] at this
  · intro g
    refine ⟨fun r' hr' => ?_, fun r' hr' q' hq' => ?_, fun r' hr' q' hq' hne => ?_⟩
    · obtain ⟨r, hr, rfl⟩ := (hm _).mp hr'
      rw [h1 r hr, h2 r hr]
      exact g.hue r hr
    · obtain ⟨r, hr, rfl⟩ := (hm _).mp hr'
      obtain ⟨q, hq, rfl⟩ := (hm _).mp hq'
      rw [st1 r hr q hq, st2 r hr q hq]
      exact g.stem r hr q hq
    · obtain ⟨r, hr, rfl⟩ := (hm _).mp hr'
      obtain ⟨q, hq, rfl⟩ := (hm _).mp hq'
      have hne1 : r.1.1 ≠ q.1.1 := fun e => hne ((st1 r hr q hq).mpr e)
      have hne2 : r.2.1 ≠ q.2.1 := fun e => hne1 ((g.stem r hr q hq).mpr e)
      obtain ⟨a, b⟩ := tie r hr q hq hne1 hne2
      rw [a, b]
      exact g.tie r hr q hq hne1
theorem rel_led {ms hs : List Int} {t u : Turn} {P P' : List Row} (hM : MsP ms) (ht : TurnP ms hs t) (hu : TurnP ms hs u) (hP : ∀ r ∈ P, RowP ms hs.length r)
    (hm : ∀ r', r' ∈ P' ↔ ∃ r ∈ P, r' = ledR ms t u r) (hst : ∀ r ∈ P, ∀ q ∈ P, (r.1.1 = q.1.1 → r.2.1 = q.2.1)) {s x s' y : Nat} (hs2 : s < 2) (hs2' : s' < 2)
    (hx : x ∈ freeN hs P s) (hy : y ∈ freeN hs P s') : Rel ms hs P' s (ldS t u s x) s' (ldS t u s' y) ↔ Rel ms hs P s x s' y := by
  have key : ∀ {s x : Nat}, s < 2 → x ∈ freeN hs P s → hs.getD (ldS t u s x) 0 = hs.getD x 0 ∧
      ∀ r ∈ P, ∀ q ∈ P, r.1.1 = q.1.1 → lessF ms ((sd s (ledR ms t u r)).2.getD (ldS t u s x) []) ((sd s (ledR ms t u q)).2.getD (ldS t u s x) []) = lessF ms ((sd s r).2.getD x []) ((sd s q).2.getD x []) := by
    intro s x hs2 hx
    obtain ⟨hxl, hxn⟩ := free_mem.mp hx
    have : s = 0 ∨ s = 1 := by omega
    rcases this with rfl | rfl
    · obtain ⟨c, hc, _⟩ := ht.lead.at hxl
      have el : ldS t u 0 x = c := natD_of hc
      rw [el]
      refine ⟨hue_led ht hc, fun r hr q hq hst => ?_⟩
      have n1 : x ≠ r.1.1 := fun e => hxn r hr e.symm
      have n2 : x ≠ q.1.1 := fun e => hxn q hq e.symm
      show lessF ms ((ledP ms t r.1).2.getD c []) ((ledP ms t q.1).2.getD c []) = lessF ms (r.1.2.getD x []) (q.1.2.getD x [])
      rw [led_says ht (hP r hr).fst hc n1, led_says ht (hP q hq).fst hc n2, hst]
      exact less_cancel hM (says_tie (hP r hr).fst hxl) (says_tie (hP q hq).fst hxl) (tabT_tie ht.tab (hP q hq).fst.lt hxl (Ne.symm n2))
    · obtain ⟨c, hc, _⟩ := hu.lead.at hxl
      have el : ldS t u 1 x = c := natD_of hc
      rw [el]
      refine ⟨hue_led hu hc, fun r hr q hq hst2 => ?_⟩
      have n1 : x ≠ r.2.1 := fun e => hxn r hr e.symm
      have n2 : x ≠ q.2.1 := fun e => hxn q hq e.symm
      show lessF ms ((ledP ms u r.2).2.getD c []) ((ledP ms u q.2).2.getD c []) = lessF ms (r.2.2.getD x []) (q.2.2.getD x [])
      rw [led_says hu (hP r hr).snd hc n1, led_says hu (hP q hq).snd hc n2, hst r hr q hq hst2]
      exact less_cancel hM (says_tie (hP r hr).snd hxl) (says_tie (hP q hq).snd hxl) (tabT_tie hu.tab (hP q hq).snd.lt hxl (Ne.symm n2))
  obtain ⟨a1, a2⟩ := key hs2 hx
  obtain ⟨b1, b2⟩ := key hs2' hy
  have st1 : ∀ r ∈ P, ∀ q ∈ P, ((ledP ms t r.1).1 = (ledP ms t q.1).1 ↔ r.1.1 = q.1.1) := fun r hr q hq => led_stem ht (hP r hr).fst (hP q hq).fst
  constructor
  · rintro ⟨e1, e2⟩
    refine ⟨by rw [a1, b1] at e1; exact e1, fun r hr q hq h => ?_⟩
    have := e2 _ ((hm _).mpr ⟨r, hr, rfl⟩) _ ((hm _).mpr ⟨q, hq, rfl⟩) ((st1 r hr q hq).mpr h)
    rwa [a2 r hr q hq h, b2 r hr q hq h] at this
  · rintro ⟨e1, e2⟩
    refine ⟨by rw [a1, b1]; exact e1, fun r' hr' q' hq' h => ?_⟩
    obtain ⟨r, hr, rfl⟩ := (hm _).mp hr'
    obtain ⟨q, hq, rfl⟩ := (hm _).mp hq'
    have h := (st1 r hr q hq).mp h
    rw [a2 r hr q hq h, b2 r hr q hq h]
    exact e2 r hr q hq h
theorem free_led {ms hs : List Int} {t u : Turn} {P P' : List Row} (ht : TurnP ms hs t) (hu : TurnP ms hs u) (hP : ∀ r ∈ P, RowP ms hs.length r)
    (hm : ∀ r', r' ∈ P' ↔ ∃ r ∈ P, r' = ledR ms t u r) {s : Nat} (hs2 : s < 2) : (freeN hs P' s).Perm ((freeN hs P s).map (ldS t u s)) := by
  obtain ⟨v, hv, ev⟩ : ∃ v : Turn, TurnP ms hs v ∧ (∀ x, ldS t u s x = v.1.getD x 0) ∧ ∀ r ∈ P, v.1[(sd s r).1]? = some (sd s (ledR ms t u r)).1 := by
    have : s = 0 ∨ s = 1 := by omega
    rcases this with rfl | rfl
    · exact ⟨t, ht, fun x => rfl, fun r hr => led_stem1 ht (hP r hr).fst⟩
    · exact ⟨u, hu, fun x => rfl, fun r hr => led_stem1 hu (hP r hr).snd⟩
  obtain ⟨ev, es⟩ := ev
  refine (List.perm_ext_iff_of_nodup (free_nd _ _ _) ?_).mpr fun c => ?_
  · have nd := free_nd hs P s
    unfold List.Nodup at nd ⊢
    rw [List.pairwise_map]
    refine List.Pairwise.imp_of_mem (fun {a b} ha hb z e => z ?_) nd
    obtain ⟨c, hc, _⟩ := hv.lead.at (free_mem.mp ha).1
    obtain ⟨d, hd, _⟩ := hv.lead.at (free_mem.mp hb).1
    rw [ev, ev, natD_of hc, natD_of hd] at e
    rw [← e] at hd
    exact hv.lead.inj hc hd
  · rw [free_mem, List.mem_map]
    constructor
    · rintro ⟨hc, hn⟩
      obtain ⟨x, hx, hxc⟩ := hv.lead.surj hc
      refine ⟨x, free_mem.mpr ⟨hx, fun r hr e => hn _ ((hm _).mpr ⟨r, hr, rfl⟩) ?_⟩, by rw [ev]; exact natD_of hxc⟩
      have := es r hr
      rw [e, hxc] at this
      exact (Option.some.inj this).symm
    · rintro ⟨x, hx, rfl⟩
      obtain ⟨hxl, hn⟩ := free_mem.mp hx
      obtain ⟨c, hc, hc2⟩ := hv.lead.at hxl
      rw [ev, natD_of hc]
      refine ⟨hc2, fun r' hr' e => ?_⟩
      obtain ⟨r, hr, rfl⟩ := (hm _).mp hr'
      have := es r hr
      rw [e] at this
      exact hn r hr (hv.lead.inj this hc)
theorem ld_lt {ms hs : List Int} {t u : Turn} {P : List Row} (ht : TurnP ms hs t) (hu : TurnP ms hs u) {s x : Nat} (hx : x ∈ freeN hs P s) : ldS t u s x < hs.length := by
  have hxl := (free_mem.mp hx).1
  unfold ldS
  split
  · obtain ⟨c, hc, h⟩ := ht.lead.at hxl
    rw [natD_of hc]; exact h
  · obtain ⟨c, hc, h⟩ := hu.lead.at hxl
    rw [natD_of hc]; exact h
structure PartW (ms : List Int) (n : Nat) (P : List Row) : Prop where
  row : ∀ r ∈ P, RowP ms n r
  nd1 : (P.map (·.1)).Nodup
  nd2 : (P.map (·.2)).Nodup
theorem PartP.weak {ms : List Int} {n : Nat} {P : List Row} (h : PartP ms n P) : PartW ms n P := ⟨h.row, h.nd1, h.nd2⟩
/-- M1, in whatever order -/
theorem goes_ledW {ms hs : List Int} {t u : Turn} {P P' : List Row} (hM : MsP ms) (ht : TurnP ms hs t) (hu : TurnP ms hs u) (hP : PartW ms hs.length P) (hP' : PartW ms hs.length P')
    (hm : ∀ r', r' ∈ P' ↔ ∃ r ∈ P, r' = ledR ms t u r) : allBs ms hs P' = [] ↔ allBs ms hs P = [] := by
  rw [goes_iff hM hP.row hP.nd1 hP.nd2, goes_iff hM hP'.row hP'.nd1 hP'.nd2, good_led1 hM ht hu hP.row hm]
  refine and_congr_right fun g => ?_
  have hst : ∀ r ∈ P, ∀ q ∈ P, (r.1.1 = q.1.1 → r.2.1 = q.2.1) := fun r hr q hq h => (g.stem r hr q hq).mp h
  have e : ∀ s, s < 2 → (sgN ms hs P' s).Perm ((freeN hs P s).map fun x => sgA ms hs P' s (ldS t u s x)) := fun s hs2 => by
    rw [sgN_map]
    have := (free_led ht hu hP.row hm hs2).map (sgA ms hs P' s)
    rwa [List.map_map] at this
  have iff : ∀ x ∈ freeN hs P 0, ∀ y ∈ freeN hs P 1, (sgA ms hs P' 0 (ldS t u 0 x) = sgA ms hs P' 1 (ldS t u 1 y) ↔ sgA ms hs P 0 x = sgA ms hs P 1 y) := fun x hx y hy => by
    rw [sg_rel hM hP.row (free_mem.mp hx).1 (free_mem.mp hy).1, sg_rel hM hP'.row (ld_lt ht hu hx) (ld_lt ht hu hy)]
    exact rel_led hM ht hu hP.row hm hst (by omega) (by omega) hx hy
  rw [sgN_map ms hs P 0, sgN_map ms hs P 1]
  constructor
  · intro p
    exact perm_transfer (fun x hx y hy h => (iff x hx y hy).mp h) ((e 0 (by omega)).symm.trans (p.trans (e 1 (by omega))))
  · intro p
    exact (e 0 (by omega)).trans ((perm_transfer (fun x hx y hy h => (iff x hx y hy).mpr h) p).trans (e 1 (by omega)).symm)
inductive Told (ms hs : List Int) (P : List Row) : Prop where
  | none : firstB ms hs P = .non → allBs ms hs P = [] → Told ms hs P
  | count (c : Sign × Nat × Nat) : firstB ms hs P = dB4 c → rowBs ms hs P = [] → allBs ms hs P ≠ [] → Told ms hs P
  | hue (i : Nat) : firstB ms hs P = dB1 sHue i → i < P.length → firstB ms hs [rowAt P i] = dB1 sHue 0 → allBs ms hs [rowAt P i] ≠ [] → allBs ms hs P ≠ [] → Told ms hs P
  | two (w : Str) (p : Nat × Nat) : firstB ms hs P = dB2 w p → w = sStems ∨ w = sTie → p.1 < P.length → p.2 < P.length → firstB ms hs [rowAt P p.1, rowAt P p.2] = dB2 w (0, 1) →
      allBs ms hs [rowAt P p.1, rowAt P p.2] ≠ [] → allBs ms hs P ≠ [] → Told ms hs P
def preProd8 (ds : List D) : Prop := ∃ ns : List Int, (ds = [.lst (dints ns)] ∨ ds = [.tup (dints ns)]) ∧ ∀ n ∈ ns, 1 ≤ n ∧ n ≤ 200
def fProd8 : List D → D
  | [.tup xs] => .int (D.prod xs)
  | [.lst xs] => .int (D.prod xs)
  | _ => .non
theorem prod_pre8 {xs : List D} (h : xs.all (D.within 2 5) = true) : preProd8 [.tup xs] := by
  obtain ⟨ns, e, hn⟩ := prod_pre h
  exact ⟨ns, .inr e, fun n q => by have := hn n q; omega⟩
noncomputable def likeS : List Sign → List Int
  | [] => []
  | s :: r => (((s :: r).countP fun a => cB (a = s) : Nat) : Int) :: likeS r
theorem likeS_len : ∀ S : List Sign, (likeS S).length = S.length
  | [] => rfl
  | s :: r => by rw [likeS, List.length_cons, likeS_len r, List.length_cons]
theorem likeS_get : ∀ (S : List Sign) (i : Nat) (s : Sign), S[i]? = some s → (likeS S)[i]? = some (((S.drop i).countP fun a => cB (a = s) : Nat) : Int)
  | [], _, _, h => by simp at h
  | t :: r, 0, s, h => by
    have e : t = s := Option.some.inj h
    subst e
    rfl
  | t :: r, i + 1, s, h => by
    have h2 : r[i]? = some s := h
    exact likeS_get r i s h2
theorem likeS_pos {S : List Sign} : ∀ n ∈ likeS S, 1 ≤ n ∧ n ≤ S.length := fun n h => by
  obtain ⟨i, hi⟩ := List.getElem?_of_mem h
  have hl := (List.getElem?_eq_some_iff.mp hi).1
  rw [likeS_len] at hl
  have e := likeS_get S i S[i] (List.getElem?_eq_getElem hl)
  rw [hi] at e
  have e := Option.some.inj e
  have h1 : (S.drop i).countP (fun a => cB (a = S[i])) ≤ (S.drop i).length := List.countP_le_length
  have h2 : 0 < (S.drop i).countP (fun a => cB (a = S[i])) := by
    rw [List.countP_pos_iff]
    exact ⟨S[i], List.mem_of_getElem? (i := 0) (by rw [List.getElem?_drop, Nat.add_zero, List.getElem?_eq_getElem hl]), cB_true rfl⟩
  rw [List.length_drop] at h1
  omega
open Classical in
noncomputable def likeD : List D → List Int
  | [] => []
  | s :: r => (((s :: r).countP fun a => decide (a = s) : Nat) : Int) :: likeD r
theorem likeD_len : ∀ S : List D, (likeD S).length = S.length
  | [] => rfl
  | s :: r => by rw [likeD, List.length_cons, likeD_len r, List.length_cons]
open Classical in
theorem likeD_get : ∀ (S : List D) (i : Nat) (s : D), S[i]? = some s → (likeD S)[i]? = some (((S.drop i).countP fun a => decide (a = s) : Nat) : Int)
  | [], _, _, h => by simp at h
  | t :: r, 0, s, h => by
    have e : t = s := Option.some.inj h
    subst e
    rfl
  | t :: r, i + 1, s, h => by
    have h2 : r[i]? = some s := h
    exact likeD_get r i s h2
open Classical in
theorem likeD_idx (S : List D) : (S.mapIdx fun c s => D.int (((S.drop c).countP fun a => decide (a = s) : Nat) : Int)) = dints (likeD S) := by
  refine List.ext_getElem? fun i => ?_
  rw [List.getElem?_mapIdx, dints, List.getElem?_map]
  cases e : S[i]? with
  | none =>
    rw [List.getElem?_eq_none_iff] at e
    rw [List.getElem?_eq_none (by rw [likeD_len]; exact e)]
    rfl
  | some h => rw [likeD_get S i h e]; rfl
open Classical in
theorem likeD_ints (hs : List Int) : (hs.mapIdx fun c a => D.int (((hs.drop c).count a : Nat) : Int)) = dints (likeD (dints hs)) := by
  rw [← likeD_idx (dints hs)]
  refine List.ext_getElem? fun i => ?_
  rw [List.getElem?_mapIdx, List.getElem?_mapIdx, dints, List.getElem?_map]
  cases e : hs[i]? with
  | none => rfl
  | some h =>
    rw [Option.map_some, Option.map_some, Option.map_some, ← List.map_drop, List.countP_map]
    refine congrArg (fun n : Nat => some (D.int (n : Int))) ?_
    unfold List.count
    congr 1
    funext b
    show (b == h) = decide (D.int b = D.int h)
    by_cases z : b = h
    · rw [z]; simp
    · rw [decide_eq_false fun y => z (D.int.inj y)]; simp [z]
open Classical in
theorem likeD_pos {S : List D} : ∀ n ∈ likeD S, 1 ≤ n ∧ n ≤ S.length := fun n h => by
  obtain ⟨i, hi⟩ := List.getElem?_of_mem h
  have hl := (List.getElem?_eq_some_iff.mp hi).1
  rw [likeD_len] at hl
  have e := likeD_get S i S[i] (List.getElem?_eq_getElem hl)
  rw [hi] at e
  have e := Option.some.inj e
  have h1 := List.countP_le_length (p := fun a => decide (a = S[i])) (l := S.drop i)
  have h2 : 0 < (S.drop i).countP (fun a => decide (a = S[i])) := by
    rw [List.countP_pos_iff]
    exact ⟨S[i], List.mem_of_getElem? (i := 0) (by rw [List.getElem?_drop, Nat.add_zero, List.getElem?_eq_getElem hl]), decide_eq_true rfl⟩
  rw [List.length_drop] at h1
  omega
def preLc8 (ds : List D) : Prop := (∃ (k w : Nat) (S : List D), ds = [.lst S] ∧ (∀ s ∈ S, Num k w s) ∧ k ≤ 64 ∧ S.length ≤ 16) ∨ ∃ hs : List Int, ds = [.tup (dints hs)] ∧ hs.length ≤ 16
noncomputable def fLc8 : List D → D
  | [.lst xs] => .lst (dints (likeD xs))
  | [.tup xs] => .lst (dints (likeD xs))
  | _ => .non
def fTc8 : List D → D
  | [.tup xs] => .int (D.prod xs)
  | _ => .non
def tstep8 (ts : List (List Int)) (m : Int) : List (List Int) :=
  ts.flatMap fun t => (List.range m.toNat).map fun (k : Nat) => t ++ [(k : Int)]
def ties8 (ms : List Int) : List (List Int) := ms.foldl tstep8 [[]]
abbrev drows8 (ts : List (List Int)) : List D := ts.map fun t => .tup (dints t)
theorem ties8_snoc (ms : List Int) (m : Int) : ties8 (ms ++ [m]) = tstep8 (ties8 ms) m := by
  unfold ties8
  rw [List.foldl_append]
  rfl
theorem tstep8_len (ts : List (List Int)) (m : Int) : (tstep8 ts m).length = ts.length * m.toNat := by
  unfold tstep8
  induction ts with
  | nil => simp
  | cons a r ih => rw [List.flatMap_cons, List.length_append, ih, List.length_map, List.length_range, List.length_cons, Nat.add_mul, Nat.one_mul, Nat.add_comm]
theorem ties8_len : ∀ (ms : List Int), (∀ m ∈ ms, 0 ≤ m) → ((ties8 ms).length : Int) = D.prod (dints ms) := fun ms => by
  rw [← List.reverse_reverse ms]
  induction ms.reverse with
  | nil => intro _; rfl
  | cons m r ih =>
    intro h
    rw [List.reverse_cons] at h ⊢
    rw [ties8_snoc, tstep8_len, prod_append, Int.natCast_mul, ih fun x hx => h x (List.mem_append_left _ hx), Int.toNat_of_nonneg (h m (by simp))]
theorem ties8_tie : ∀ (ms : List Int), ∀ t ∈ ties8 ms, t.length = ms.length ∧ ∀ (c : Nat) (m x : Int), ms[c]? = some m → t[c]? = some x → 0 ≤ x ∧ x < m := fun ms => by
  rw [← List.reverse_reverse ms]
  induction ms.reverse with
  | nil =>
    intro t ht
    cases List.mem_singleton.mp ht
    exact ⟨rfl, fun c m x h => by simp at h⟩
  | cons m r ih =>
    intro t ht
    rw [List.reverse_cons] at ht ⊢
    rw [ties8_snoc] at ht
    obtain ⟨u, hu, ht⟩ := List.mem_flatMap.mp ht
    obtain ⟨k, hk, rfl⟩ := List.mem_map.mp ht
    have hk := List.mem_range.mp hk
    have h := ih u hu
    refine ⟨by rw [List.length_append, List.length_append, h.1]; rfl, fun c m' x e1 e2 => ?_⟩
    rcases Nat.lt_or_ge c r.reverse.length with hc | hc
    · rw [List.getElem?_append_left hc] at e1
      rw [List.getElem?_append_left (by rw [h.1]; exact hc)] at e2
      exact h.2 c m' x e1 e2
    · have hl := (List.getElem?_eq_some_iff.mp e1).1
      rw [List.length_append, List.length_singleton] at hl
      have : c = r.reverse.length := by omega
      subst this
      rw [List.getElem?_append_right (Nat.le_refl _), Nat.sub_self] at e1
      rw [← h.1, List.getElem?_append_right (Nat.le_refl _), Nat.sub_self] at e2
      cases e1
      cases e2
      omega
theorem ties8_few : ∀ (ms : List Int), (∀ m ∈ ms, m ≤ 5) → (ties8 ms).length ≤ 5 ^ ms.length := fun ms => by
  rw [← List.reverse_reverse ms]
  induction ms.reverse with
  | nil => intro _; exact Nat.le_refl _
  | cons m r ih =>
    intro h
    rw [List.reverse_cons] at h ⊢
    rw [ties8_snoc, tstep8_len, List.length_append, List.length_singleton, Nat.pow_succ]
    exact Nat.mul_le_mul (ih fun x hx => h x (List.mem_append_left _ hx)) (by have := h m (by simp); omega)
theorem prod8_bd {ms : List Int} (h : MsP ms) : 2 ≤ D.prod (dints ms) ∧ D.prod (dints ms) ≤ 125 := by
  obtain ⟨h1, h2, h3⟩ := h
  have e := ties8_len ms fun m hm => by have := h3 m hm; omega
  have f := ties8_few ms fun m hm => (h3 m hm).2
  have : 5 ^ ms.length ≤ 5 ^ 3 := Nat.pow_le_pow_right (by omega) h2
  refine ⟨?_, by omega⟩
  match ms, h1, h3 with
  | m :: r, _, h3 =>
    have hm := h3 m List.mem_cons_self
    have : ∀ r : List Int, (∀ m ∈ r, 2 ≤ m ∧ m ≤ 5) → 1 ≤ D.prod (dints r) := by
      intro r
      induction r with
      | nil => intro _; exact Int.le_refl _
      | cons a r ih =>
        intro h
        have h1 := h a List.mem_cons_self
        have h2 := ih fun x hx => h x (List.mem_cons_of_mem _ hx)
        show 1 ≤ a * D.prod (dints r)
        have := Int.mul_le_mul (a := 1) (b := 1) (c := a) (d := D.prod (dints r)) (by omega) h2 (by omega) (by omega)
        omega
    have h2 := this r fun x hx => h3 x (List.mem_cons_of_mem _ hx)
    show 2 ≤ m * D.prod (dints r)
    have := Int.mul_le_mul (a := 2) (b := 1) (c := m) (d := D.prod (dints r)) (by omega) h2 (by omega) (by omega)
    omega
def digR (n : Int) : List Int → List Int
  | [] => []
  | l :: r => n % l :: digR (n / l) r
theorem digR_len : ∀ (A : List Int) (n : Int), (digR n A).length = A.length
  | [], _ => rfl
  | a :: A, n => by rw [digR, List.length_cons, digR_len A, List.length_cons]
def digF (n : Int) (L : List Int) : List Int := (digR n L.reverse).reverse
theorem digF_len (n : Int) (L : List Int) : (digF n L).length = L.length := by
  rw [digF, List.length_reverse, digR_len, List.length_reverse]
theorem digR_pos : ∀ (A : List Int) (n : Int), (∀ a ∈ A, 0 < a) → ∀ x ∈ digR n A, 0 ≤ x
  | [], _, _, x, h => nomatch h
  | a :: A, n, ha, x, h => by
    rcases List.mem_cons.mp h with rfl | h
    · exact Int.emod_nonneg _ (by have := ha a List.mem_cons_self; omega)
    · exact digR_pos A _ (fun y hy => ha y (List.mem_cons_of_mem _ hy)) x h
theorem digF_pos {n : Int} {L : List Int} (h : ∀ a ∈ L, 0 < a) : ∀ x ∈ digF n L, 0 ≤ x := fun x hx =>
  digR_pos _ n (fun a ha => h a (List.mem_reverse.mp ha)) x (List.mem_reverse.mp hx)
def digN (n : Int) (L : List Int) : List Nat := (digF n L).map Int.toNat
theorem digN_len (n : Int) (L : List Int) : (digN n L).length = L.length := by rw [digN, List.length_map, digF_len]
noncomputable abbrev fr1 (ms hs : List Int) (P : List Row) : List (Nat × Sign) := frees ms hs (P.map (·.1))
noncomputable abbrev fr2 (ms hs : List Int) (P : List Row) : List (Nat × Sign) := frees ms hs (P.map (·.2))
def twos8 (F : List Nat) : List (Nat × Nat) := F.flatMap fun s => (F.filter fun l => decide (l < s)).map fun l => (s, l)
noncomputable def prs8 (ms hs : List Int) (P : List Row) : List (Nat × Nat) := twos8 ((fr1 ms hs P).map (·.1))
noncomputable def lims8 (ms hs : List Int) (P : List Row) : List Int :=
  likeS (sgns ms hs (P.map (·.1))) ++ List.replicate (prs8 ms hs P).length (D.prod (dints ms))
theorem lims8_bd {ms hs : List Int} {P : List Row} (hM : MsP ms) (hn : hs.length ≤ 16) : ∀ a ∈ lims8 ms hs P, 1 ≤ a ∧ a ≤ 200 := fun a ha => by
  rcases List.mem_append.mp ha with h | h
  · have h1 := likeS_pos a h
    have h2 := sgns_len ms hs (P.map (·.1))
    omega
  · have := (List.mem_replicate.mp h).2
    have := prod8_bd hM
    omega
theorem lims8_len {ms hs : List Int} {P : List Row} : (lims8 ms hs P).length = (fr1 ms hs P).length + (prs8 ms hs P).length := by
  rw [lims8, List.length_append, likeS_len, sgns, List.length_map, List.length_replicate]
theorem free_mem8 {ms hs : List Int} {L : List Spot} {a : Nat × Sign} (h : a ∈ frees ms hs L) : a.1 < hs.length ∧ a.2 = (hs.getD a.1 0, diffs ms L a.1) ∧ firstOf L a.1 = none := by
  obtain ⟨b, hb, rfl⟩ := List.mem_map.mp h
  have hb2 := List.mem_filter.mp hb
  obtain ⟨i, hi⟩ := List.getElem?_of_mem hb2.1
  rw [List.getElem?_zipIdx, Option.map_eq_some_iff] at hi
  obtain ⟨v, e1, e2⟩ := hi
  subst e2
  rw [Nat.zero_add] at hb2 ⊢
  refine ⟨(List.getElem?_eq_some_iff.mp e1).1, ?_, ?_⟩
  · show (v, diffs ms L i) = _
    rw [List.getD_eq_getElem?_getD, e1]
    rfl
  · cases e : firstOf L i with
    | none => rfl
    | some q => have := hb2.2; rw [e] at this; simp at this
theorem free_of {ms hs : List Int} {L : List Spot} {x : Nat} (hx : x < hs.length) (h : firstOf L x = none) : (x, (hs.getD x 0, diffs ms L x)) ∈ frees ms hs L := by
  refine List.mem_map.mpr ⟨(hs.getD x 0, x), List.mem_filter.mpr ⟨?_, ?_⟩, rfl⟩
  · refine List.mem_of_getElem? (i := x) ?_
    rw [List.getElem?_zipIdx, List.getElem?_eq_getElem hx, List.getD_eq_getElem?_getD, List.getElem?_eq_getElem hx]
    simp
  · show (!(firstOf L x).isSome) = true
    rw [h]; rfl
theorem firstOf_none {L : List Spot} {x : Nat} : firstOf L x = none ↔ ∀ p ∈ L, p.1 ≠ x := by
  unfold firstOf
  rw [List.find?_eq_none]
  exact ⟨fun h p hp e => h p hp (decide_eq_true e), fun h p hp e => h p hp (of_decide_eq_true e)⟩
abbrev skey (s : Sign) : List D := [.int s.1, dsays s.2]
theorem skey_inj {s t : Sign} (h : skey s = skey t) : s = t := dsign_inj (congrArg D.tup h)
abbrev Pool := Sign → List Nat
structure Rep (kvs : List BxL) (pool : Pool) : Prop where
  nd : (kvs.map (·.1)).Nodup
  of : ∀ q ∈ kvs, ∃ s, q = (skey s, dnats (pool s))
  has : ∀ s, pool s ≠ [] → (skey s, dnats (pool s)) ∈ kvs
noncomputable def pool0 (F : List (Nat × Sign)) : Pool := fun s => (F.filter fun a => cB (a.2 = s)).map (·.1)
open Classical in
noncomputable def poolAdd (pool : Pool) (s : Sign) (x : Nat) : Pool := fun t => if t = s then pool t ++ [x] else pool t
open Classical in
noncomputable def poolDrop (pool : Pool) (s : Sign) (d : Nat) : Pool := fun t => if t = s then (pool t).eraseIdx d else pool t
theorem Rep.add {kvs : List BxL} {pool : Pool} (h : Rep kvs pool) (s : Sign) (x : Nat) : Rep (pushB kvs (skey s) (.int x)) (poolAdd pool s x) := by
  have same : ∀ t, poolAdd pool s x t = if t = s then pool t ++ [x] else pool t := fun t => by
    unfold poolAdd
    split <;> rfl
  by_cases e : skey s ∈ kvs.map (·.1)
  · rw [pushB_in e]
    have keys : ∀ q : BxL, (pushQ (skey s) (.int x) q).1 = q.1 := fun q => by
      by_cases z : q.1 = skey s
      · rw [pushQ_pos z]
      · rw [pushQ_neg z]
    have vals : ∀ t, pushQ (skey s) (.int x) (skey t, dnats (pool t)) = (skey t, dnats (poolAdd pool s x t)) := fun t => by
      by_cases z : t = s
      · subst z
        rw [pushQ_pos (q := (skey t, dnats (pool t))) rfl, same, if_pos rfl]
        show (skey t, dnats (pool t) ++ [.int x]) = _
        rw [dnats, dnats, List.map_append]
        rfl
      · rw [pushQ_neg fun c => z (skey_inj c), same, if_neg z]
    refine ⟨?_, fun q hq => ?_, fun t ht => ?_⟩
    · rw [List.map_map]
      have : ((fun q : BxL => q.1) ∘ pushQ (skey s) (.int x)) = fun q => q.1 := funext keys
      rw [this]
      exact h.nd
    · obtain ⟨q0, hq0, rfl⟩ := List.mem_map.mp hq
      obtain ⟨t, rfl⟩ := h.of q0 hq0
      exact ⟨t, vals t⟩
    · refine List.mem_map.mpr ⟨(skey t, dnats (pool t)), ?_, vals t⟩
      by_cases z : t = s
      · subst z
        obtain ⟨q0, hq0, e0⟩ := List.mem_map.mp e
        obtain ⟨u, rfl⟩ := h.of q0 hq0
        cases skey_inj e0
        exact hq0
      · rw [same, if_neg z] at ht
        exact h.has t ht
  · rw [pushB_out e]
    have hp : pool s = [] := Classical.byContradiction fun z => e (List.mem_map.mpr ⟨_, h.has s z, rfl⟩)
    refine ⟨?_, fun q hq => ?_, fun t ht => ?_⟩
    · rw [List.map_append, List.nodup_append]
      refine ⟨h.nd, by simp, fun a ha b hb => ?_⟩
      have hb : b = skey s := by simpa using hb
      rintro rfl
      exact e (hb ▸ ha)
    · rcases List.mem_append.mp hq with hq | hq
      · obtain ⟨t, rfl⟩ := h.of q hq
        refine ⟨t, ?_⟩
        rw [same, if_neg fun z => e (List.mem_map.mpr ⟨_, hq, by rw [z]⟩)]
      · cases List.mem_singleton.mp hq
        refine ⟨s, ?_⟩
        rw [same, if_pos rfl, hp]
        rfl
    · by_cases z : t = s
      · subst z
        rw [same, if_pos rfl, hp]
        exact List.mem_append_right _ (List.mem_singleton.mpr rfl)
      · rw [same, if_neg z] at ht ⊢
        exact List.mem_append_left _ (h.has t ht)
theorem Rep.drop {kvs : List BxL} {pool : Pool} (h : Rep kvs pool) (s : Sign) (d : Nat) (hs : pool s ≠ []) : Rep (kvs.map (putQ (skey s) ((dnats (pool s)).eraseIdx d))) (poolDrop pool s d) := by
  have same : ∀ t, poolDrop pool s d t = if t = s then (pool t).eraseIdx d else pool t := fun t => by
    unfold poolDrop
    split <;> rfl
  have keys : ∀ q : BxL, (putQ (skey s) ((dnats (pool s)).eraseIdx d) q).1 = q.1 := fun q => by
    by_cases z : q.1 = skey s
    · rw [putQ_pos z]
    · rw [putQ_neg z]
  have er : ∀ (L : List Nat) (d : Nat), (dnats L).eraseIdx d = dnats (L.eraseIdx d) := by
    intro L
    induction L with
    | nil => intro d; rfl
    | cons a L ih =>
      intro d
      cases d with
      | zero => rfl
      | succ d => show D.int a :: (dnats L).eraseIdx d = D.int a :: dnats (L.eraseIdx d); rw [ih]
  have vals : ∀ t, putQ (skey s) ((dnats (pool s)).eraseIdx d) (skey t, dnats (pool t)) = (skey t, dnats (poolDrop pool s d t)) := fun t => by
    by_cases z : t = s
    · subst z
      rw [putQ_pos (q := (skey t, dnats (pool t))) rfl, same, if_pos rfl, er]
    · rw [putQ_neg fun c => z (skey_inj c), same, if_neg z]
  refine ⟨?_, fun q hq => ?_, fun t ht => ?_⟩
  · rw [List.map_map]
    have : ((fun q : BxL => q.1) ∘ putQ (skey s) ((dnats (pool s)).eraseIdx d)) = fun q => q.1 := funext keys
    rw [this]
    exact h.nd
  · obtain ⟨q0, hq0, rfl⟩ := List.mem_map.mp hq
    obtain ⟨t, rfl⟩ := h.of q0 hq0
    exact ⟨t, vals t⟩
  · refine List.mem_map.mpr ⟨(skey t, dnats (pool t)), h.has t ?_, vals t⟩
    by_cases z : t = s
    · subst z; exact hs
    · rwa [same, if_neg z] at ht
/-- what is left as the free stems ahead take theirs -/
noncomputable def poolAt (F : List (Nat × Sign)) (G : List Nat) (pool : Pool) : Nat → Pool
  | 0 => pool
  | c + 1 => poolDrop (poolAt F G pool c) ((F.map (·.2)).getD c (0, [])) (G.getD c 0)
structure LeadC (ms hs : List Int) (P : List Row) (G : List Nat) (L : Nat → Nat) : Prop where
  told : ∀ r ∈ P, L r.1.1 = r.2.1
  pick : ∀ (c : Nat) a d, (fr1 ms hs P)[c]? = some a → G[c]? = some d → (poolAt (fr1 ms hs P) G (pool0 (fr2 ms hs P)) c a.2)[d]? = some (L a.1)
  len : G.length = (fr1 ms hs P).length
theorem poolDrop_sub {pool : Pool} {s t : Sign} {d x : Nat} (h : x ∈ poolDrop pool s d t) : x ∈ pool t := by
  unfold poolDrop at h
  split at h
  · exact List.mem_of_mem_eraseIdx h
  · exact h
theorem poolAt_sub {F : List (Nat × Sign)} {G : List Nat} {pool : Pool} {t : Sign} {x : Nat} : ∀ {c : Nat}, x ∈ poolAt F G pool c t → x ∈ pool t
  | 0, h => h
  | c + 1, h => poolAt_sub (c := c) (poolDrop_sub h)
theorem pool0_mem {F : List (Nat × Sign)} {t : Sign} {x : Nat} (h : x ∈ pool0 F t) : (x, t) ∈ F := by
  obtain ⟨a, ha, rfl⟩ := List.mem_map.mp h
  have ha := List.mem_filter.mp ha
  have : a.2 = t := Classical.byContradiction fun z => by rw [cB_false z] at ha; exact Bool.false_ne_true ha.2
  rw [← this]
  exact ha.1
theorem LeadC.lt {ms hs : List Int} {P : List Row} {G : List Nat} {L : Nat → Nat} (h : LeadC ms hs P G L) (hP : RowsP ms hs P) {x : Nat} (hx : x < hs.length) : L x < hs.length := by
  cases e : firstOf (P.map (·.1)) x with
  | some p =>
    have hm := List.mem_of_find?_eq_some e
    have hq := of_decide_eq_true (List.find?_some (p := fun q : Spot => decide (q.1 = x)) e)
    obtain ⟨r, hr, rfl⟩ := List.mem_map.mp hm
    rw [← hq, h.told r hr]
    exact (hP.row r hr).snd.lt
  | none =>
    obtain ⟨c, hc⟩ := List.getElem?_of_mem (free_of (ms := ms) hx e)
    have hl := (List.getElem?_eq_some_iff.mp hc).1
    have := h.pick c _ _ hc (List.getElem?_eq_getElem (by rw [h.len]; exact hl))
    have := pool0_mem (poolAt_sub (List.mem_of_getElem? this))
    exact (free_mem8 this).1
theorem LeadC.uniq {ms hs : List Int} {P : List Row} {G : List Nat} {L L2 : Nat → Nat} (h : LeadC ms hs P G L) (h2 : LeadC ms hs P G L2) {x : Nat} (hx : x < hs.length) : L x = L2 x := by
  cases e : firstOf (P.map (·.1)) x with
  | some p =>
    have hm := List.mem_of_find?_eq_some e
    have hq := of_decide_eq_true (List.find?_some (p := fun q : Spot => decide (q.1 = x)) e)
    obtain ⟨r, hr, rfl⟩ := List.mem_map.mp hm
    rw [← hq, h.told r hr, h2.told r hr]
  | none =>
    obtain ⟨c, hc⟩ := List.getElem?_of_mem (free_of (ms := ms) hx e)
    have hl := (List.getElem?_eq_some_iff.mp hc).1
    have hg := List.getElem?_eq_getElem (show c < G.length by rw [h.len]; exact hl)
    have e1 := h.pick c _ _ hc hg
    have e2 := h2.pick c _ _ hc hg
    rw [e1] at e2
    exact Option.some.inj e2
structure MoveC (ms hs : List Int) (P : List Row) (Ls G : List Nat) (M : Nat → Nat → List Int) : Prop where
  row : ∀ r ∈ P, ∀ e < hs.length, e ≠ r.1.1 → M (max r.1.1 e) (min r.1.1 e) = lessF ms (r.2.2.getD (Ls.getD e 0) []) (r.1.2.getD e [])
  free : ∀ (c : Nat) p d, (prs8 ms hs P)[c]? = some p → G[c]? = some d → (ties8 ms)[d]? = some (M p.1 p.2)
  len : G.length = (prs8 ms hs P).length
def tabM (n : Nat) (M : Nat → Nat → List Int) : List (List (List Int)) := (List.range n).map fun x => (List.range x).map fun y => M x y
structure WayC (ms hs : List Int) (P : List Row) (n : Int) (L : Nat → Nat) (M : Nat → Nat → List Int) : Prop where
  lead : LeadC ms hs P ((digN n (lims8 ms hs P)).take (fr1 ms hs P).length) L
  move : MoveC ms hs P ((List.range hs.length).map L) ((digN n (lims8 ms hs P)).drop (fr1 ms hs P).length) M
theorem cut_from8 {xs : List D} {c : Nat} (h : c ≤ xs.length) : Wt.cutD xs (some (c : Int)) none = xs.drop c := by
  unfold Wt.cutD
  rw [HT.sIx_nat, HT.sIx_none, Nat.min_eq_left h, List.take_of_length_le (by rw [List.length_drop]; exact Nat.le_refl _)]
section
variable {K : PySem.W.Frag} {l : Option Addr} {ρ : Ro} {m : Nat} {Nx : Nat → Ro → Prop} {Rt : Nat → D → Prop}
theorem s_retOwn8 {i : Nat} {ds : List D} (hi : ρ[i]? = some (some (.own ds))) (q : Rt m (.lst ds)) : SvC K l (tRet (tVar i)) ρ m Nx Rt :=
  s_freeze hi (s_ret (e_var (List.getElem?_set_self (List.getElem?_eq_some_iff.mp hi).1) q))
end
/-- what a dict of leads holds -/
structure LdK (kvs : List (Int × D)) (L : Nat → Nat) (S : Nat → Prop) : Prop where
  ok : ∀ (x : Nat) y, dval kvs (x : Int) = some y → y = .int (L x : Nat)
  has : ∀ x, S x → (dval kvs (x : Int)).isSome = true
theorem LdK.put {kvs : List (Int × D)} {L : Nat → Nat} {S : Nat → Prop} (h : LdK kvs L S) (x : Nat) : LdK (dputI kvs (x : Nat) (.int (L x : Nat))) L fun z => S z ∨ z = x := by
  refine ⟨fun z y e => ?_, fun z hz => ?_⟩
  · rw [dval_put] at e
    by_cases q : (x : Int) = z
    · rw [if_pos q] at e
      have : x = z := by omega
      subst this
      exact (Option.some.inj e).symm
    · rw [if_neg q] at e
      exact h.ok z y e
  · rw [dval_put]
    by_cases q : (x : Int) = z
    · rw [if_pos q]; rfl
    · rw [if_neg q]
      exact h.has z (hz.resolve_right fun e => q (by rw [e]))
abbrev pkey (p : Nat × Nat) : List D := [.int p.1, .int p.2]
theorem pkey_inj {p q : Nat × Nat} (h : pkey p = pkey q) : p = q := by
  have h1 := (List.cons.inj h).1
  have h2 := (List.cons.inj (List.cons.inj h).2).1
  have e1 := D.int.inj h1
  have e2 := D.int.inj h2
  exact Prod.ext (by omega) (by omega)
theorem frees_nd (ms hs : List Int) (L : List Spot) : ((frees ms hs L).map (·.1)).Nodup := by
  unfold frees
  rw [List.map_map]
  have h1 : (hs.zipIdx.map (·.2)).Nodup := by
    rw [List.zipIdx_map_snd]
    exact List.nodup_range' ..
  exact List.Nodup.sublist (List.Sublist.map _ (List.filter_sublist)) h1
theorem twos8_nd {F : List Nat} (h : F.Nodup) : (twos8 F).Nodup := by
  have key : ∀ G : List Nat, G.Nodup → (G.flatMap fun s => (F.filter fun l => decide (l < s)).map fun l => (s, l)).Nodup := by
    intro G
    induction G with
    | nil => intro _; exact List.nodup_nil
    | cons a G ih =>
      intro hG
      rw [List.nodup_cons] at hG
      rw [List.flatMap_cons, List.nodup_append]
      refine ⟨?_, ih hG.2, fun p hp q hq e => ?_⟩
      · have := h.sublist (List.filter_sublist (p := fun l => decide (l < a)))
        exact List.Pairwise.map _ (fun a b hab e => hab (Prod.mk.inj e).2) this
      · subst e
        obtain ⟨x, _, rfl⟩ := List.mem_map.mp hp
        obtain ⟨b, hb, hq⟩ := List.mem_flatMap.mp hq
        obtain ⟨y, _, e⟩ := List.mem_map.mp hq
        exact hG.1 ((Prod.mk.inj e).1 ▸ hb)
  exact key F h
structure MvK (kvs : List (List D × D)) (M : Nat → Nat → List Int) (S : Nat × Nat → Prop) : Prop where
  nd : (kvs.map (·.1)).Nodup
  ok : ∀ q ∈ kvs, ∃ p : Nat × Nat, q = (pkey p, .tup (dints (M p.1 p.2)))
  has : ∀ p, S p → (pkey p, .tup (dints (M p.1 p.2))) ∈ kvs
open Classical in
theorem MvK.put {kvs : List (List D × D)} {M : Nat → Nat → List Int} {S : Nat × Nat → Prop} (h : MvK kvs M S) (p : Nat × Nat) :
    MvK (putV kvs (pkey p) (.tup (dints (M p.1 p.2)))) M fun z => S z ∨ z = p := by
  by_cases e : pkey p ∈ kvs.map (·.1)
  · have same : putV kvs (pkey p) (.tup (dints (M p.1 p.2))) = kvs := by
      rw [putV_in e]
      conv => rhs; rw [← List.map_id kvs]
      refine List.map_congr_left fun q hq => ?_
      show (if q.1 = pkey p then (q.1, D.tup (dints (M p.1 p.2))) else q) = q
      split
      · rename_i z
        obtain ⟨p2, rfl⟩ := h.ok q hq
        cases pkey_inj z
        rfl
      · rfl
    rw [same]
    refine ⟨h.nd, h.ok, fun z hz => ?_⟩
    rcases hz with hz | rfl
    · exact h.has z hz
    · obtain ⟨q, hq, e1⟩ := List.mem_map.mp e
      obtain ⟨p2, rfl⟩ := h.ok q hq
      cases pkey_inj e1
      exact hq
  · refine ⟨putV_nd h.nd, ?_, ?_⟩
    · rw [putV_out e]
      intro q hq
      rcases List.mem_append.mp hq with hq | hq
      · exact h.ok q hq
      · exact ⟨p, List.mem_singleton.mp hq⟩
    · rw [putV_out e]
      intro z hz
      rcases hz with hz | rfl
      · exact List.mem_append_left _ (h.has z hz)
      · exact List.mem_append_right _ (List.mem_singleton.mpr rfl)
/-- what is settled when c rows are gone through -/
def MvS (ms hs : List Int) (P : List Row) (c : Nat) (p : Nat × Nat) : Prop :=
  p ∈ prs8 ms hs P ∨ ∃ i < c, ∃ r, P[i]? = some r ∧ ∃ e < hs.length, e ≠ r.1.1 ∧ p = (max r.1.1 e, min r.1.1 e)
theorem twos8_mem {F : List Nat} {p : Nat × Nat} : p ∈ twos8 F ↔ p.1 ∈ F ∧ p.2 ∈ F ∧ p.2 < p.1 := by
  unfold twos8
  rw [List.mem_flatMap]
  constructor
  · rintro ⟨s, hs, hp⟩
    obtain ⟨l, hl, rfl⟩ := List.mem_map.mp hp
    rw [List.mem_filter] at hl
    exact ⟨hs, hl.1, of_decide_eq_true hl.2⟩
  · rintro ⟨h1, h2, h3⟩
    exact ⟨p.1, h1, List.mem_map.mpr ⟨p.2, List.mem_filter.mpr ⟨h2, decide_eq_true h3⟩, rfl⟩⟩
theorem told_or_free {ms hs : List Int} {P : List Row} {x : Nat} (hx : x < hs.length) : (∃ i < P.length, ∃ r, P[i]? = some r ∧ r.1.1 = x) ∨ x ∈ (fr1 ms hs P).map (·.1) := by
  cases e : firstOf (P.map (·.1)) x with
  | some p =>
    have hm := List.mem_of_find?_eq_some e
    have hq := of_decide_eq_true (List.find?_some (p := fun q : Spot => decide (q.1 = x)) e)
    obtain ⟨r, hr, rfl⟩ := List.mem_map.mp hm
    obtain ⟨i, hi⟩ := List.getElem?_of_mem hr
    exact .inl ⟨i, (List.getElem?_eq_some_iff.mp hi).1, r, hi, hq⟩
  | none => exact .inr (List.mem_map.mpr ⟨_, free_of (ms := ms) hx e, rfl⟩)
theorem mvS_all {ms hs : List Int} {P : List Row} (hP : RowsP ms hs P) {x y : Nat} (hx : x < hs.length) (hy : y < x) : MvS ms hs P P.length (x, y) := by
  rcases told_or_free (ms := ms) (P := P) hx with ⟨i, hi, r, hr, e⟩ | h1
  · refine .inr ⟨i, hi, r, hr, y, by omega, by omega, ?_⟩
    rw [e, Nat.max_eq_left (by omega), Nat.min_eq_right (by omega)]
  · rcases told_or_free (ms := ms) (P := P) (x := y) (show y < hs.length by omega) with ⟨i, hi, r, hr, e⟩ | h2
    · refine .inr ⟨i, hi, r, hr, x, hx, by omega, ?_⟩
      rw [e, Nat.max_eq_right (by omega), Nat.min_eq_left (by omega)]
    · exact .inl (twos8_mem.mpr ⟨h1, h2, hy⟩)
noncomputable def wayN (ms hs : List Int) (P : List Row) : Int := if (allBs ms hs P).isEmpty = true then D.prod (dints (lims8 ms hs P)) else 0
theorem prod_le8 : ∀ L : List Int, (∀ n ∈ L, 1 ≤ n ∧ n ≤ 16) → 1 ≤ D.prod (dints L) ∧ D.prod (dints L) ≤ 16 ^ L.length
  | [], _ => ⟨Int.le_refl _, Int.le_refl _⟩
  | a :: L, h => by
    have h1 := h a List.mem_cons_self
    have ih := prod_le8 L fun n hn => h n (List.mem_cons_of_mem _ hn)
    show 1 ≤ a * D.prod (dints L) ∧ a * D.prod (dints L) ≤ 16 ^ (L.length + 1)
    have e1 := Int.mul_le_mul (a := 1) (b := 1) (c := a) (d := D.prod (dints L)) h1.1 ih.1 (by omega) (by omega)
    have e2 := Int.mul_le_mul (a := a) (b := D.prod (dints L)) (c := 16) (d := 16 ^ L.length) h1.2 ih.2 (by omega) (by omega)
    rw [Int.pow_succ]
    omega

theorem less_swap10 {ms a b c d : List Int} (hM : MsP ms) (ha : TieP ms a) (hb : TieP ms b) (hc : TieP ms c) (hd : TieP ms d)
    (h : lessF ms a b = lessF ms c d) : lessF ms c a = lessF ms d b := by
  refine tie_ext (less_tie hM hc ha).1 (less_tie hM hd hb).1 fun k m em => ?_
  obtain ⟨x, ex, _⟩ := tget ha em
  obtain ⟨y, ey, _⟩ := tget hb em
  obtain ⟨z, ez, _⟩ := tget hc em
  obtain ⟨v, ev, _⟩ := tget hd em
  have e1 := less_get em ex ey
  rw [h, less_get em ez ev] at e1
  have e1 : (z - v) % m = (x - y) % m := Option.some.inj e1
  rw [less_get em ez ex, less_get em ev ey]
  congr 1
  have h1 := Int.emod_eq_emod_iff_emod_sub_eq_zero.mp e1
  refine Int.emod_eq_emod_iff_emod_sub_eq_zero.mpr ?_
  rw [show z - x - (v - y) = z - v - (x - y) by omega]
  exact h1
theorem sum_less10 {ms x y : List Int} (hM : MsP ms) (hx : TieP ms x) (hy : TieP ms y) : sumF ms x (lessF ms y x) = y := by
  refine tie_ext (sum_tie hM hx (less_tie hM hy hx)).1 hy.1 fun c m em => ?_
  obtain ⟨a, ea, a1, a2⟩ := tget hx em
  obtain ⟨b, eb, b1, b2⟩ := tget hy em
  rw [sum_get em ea (less_get em eb ea), eb, Int.add_emod, Int.emod_emod_of_dvd _ (Int.dvd_refl m), ← Int.add_emod, show a + (b - a) = b by omega, Int.emod_eq_of_lt b1 b2]
theorem nd_at10 {α : Type} {L : List α} (h : L.Nodup) {i j : Nat} {x : α} (hi : L[i]? = some x) (hj : L[j]? = some x) : i = j := by
  obtain ⟨li, ei⟩ := List.getElem?_eq_some_iff.mp hi
  obtain ⟨lj, ej⟩ := List.getElem?_eq_some_iff.mp hj
  rcases Nat.lt_trichotomy i j with q | q | q
  · exact absurd (ei.trans ej.symm) (List.pairwise_iff_getElem.mp h i j li lj q)
  · exact q
  · exact absurd (ej.trans ei.symm) (List.pairwise_iff_getElem.mp h j i lj li q)
theorem digR_lt : ∀ (A : List Int) (n : Int), (∀ a ∈ A, 0 < a) → ∀ (c : Nat) x a, (digR n A)[c]? = some x → A[c]? = some a → 0 ≤ x ∧ x < a
  | [], _, _, c, x, a, h, _ => by simp [digR] at h
  | b :: A, n, hA, 0, x, a, h, h2 => by
    have e1 : n % b = x := Option.some.inj h
    have e2 : b = a := Option.some.inj h2
    have := hA b List.mem_cons_self
    rw [← e1, ← e2]
    exact ⟨Int.emod_nonneg _ (by omega), Int.emod_lt_of_pos _ this⟩
  | b :: A, n, hA, c + 1, x, a, h, h2 => digR_lt A (n / b) (fun y hy => hA y (List.mem_cons_of_mem _ hy)) c x a h h2
theorem digN_lt {n : Int} {A : List Int} (hA : ∀ a ∈ A, 0 < a) {c : Nat} {x : Nat} {a : Int} (h : (digN n A)[c]? = some x) (h2 : A[c]? = some a) : (x : Int) < a := by
  unfold digN at h
  rw [List.getElem?_map, Option.map_eq_some_iff] at h
  obtain ⟨y, hy, rfl⟩ := h
  have hc := (List.getElem?_eq_some_iff.mp h2).1
  unfold digF at hy
  have hl := digR_len A.reverse n
  rw [List.length_reverse] at hl
  rw [List.getElem?_reverse (by omega), hl] at hy
  have h3 : A.reverse[A.length - 1 - c]? = some a := by
    rw [List.getElem?_reverse (by omega), show A.length - 1 - (A.length - 1 - c) = c by omega]
    exact h2
  have := digR_lt A.reverse n (fun a ha => hA a (List.mem_reverse.mp ha)) _ y a hy h3
  omega
theorem pool_len {F F2 : List (Nat × Sign)} {G : List Nat} (hl : G.length = F.length)
    (h0 : ∀ s, (pool0 F2 s).length = F.countP fun a => cB (a.2 = s))
    (hG : ∀ (c : Nat) a g, F[c]? = some a → G[c]? = some g → g < (F.drop c).countP fun b => cB (b.2 = a.2)) :
    ∀ c, c ≤ F.length → ∀ s, (poolAt F G (pool0 F2) c s).length = (F.drop c).countP fun a => cB (a.2 = s)
  | 0, _, s => h0 s
  | c + 1, hc, s => by
    have ih := pool_len hl h0 hG c (by omega)
    have hF := List.getElem?_eq_getElem (show c < F.length by omega)
    have hg := List.getElem?_eq_getElem (show c < G.length by omega)
    have hb := hG c _ _ hF hg
    have e1 : (F.map (·.2)).getD c (0, []) = (F[c]'(by omega)).2 := by rw [List.getD_eq_getElem?_getD, List.getElem?_map, hF]; rfl
    have e2 : G.getD c 0 = G[c]'(by omega) := by rw [List.getD_eq_getElem?_getD, hg]; rfl
    show (poolDrop _ ((F.map (·.2)).getD c (0, [])) (G.getD c 0) s).length = _
    rw [e1, e2]
    have hd : F.drop c = (F[c]'(by omega)) :: F.drop (c + 1) := List.drop_eq_getElem_cons (by omega)
    have hs := ih s
    rw [hd, List.countP_cons] at hs
    unfold poolDrop
    by_cases e : s = (F[c]'(by omega)).2
    · rw [if_pos e]
      rw [cB_true e.symm, if_pos rfl] at hs
      have hs2 := ih (F[c]'(by omega)).2
      rw [← hs2] at hb
      rw [← e] at hb
      rw [List.length_eraseIdx, if_pos hb, hs]
      rfl
    · rw [if_neg e]
      rw [cB_false (fun z => e z.symm), if_neg Bool.false_ne_true] at hs
      exact hs
theorem pool_nd {F F2 : List (Nat × Sign)} {G : List Nat} (h : (F2.map (·.1)).Nodup) : ∀ c s, (poolAt F G (pool0 F2) c s).Nodup
  | 0, s => h.sublist (List.Sublist.map _ List.filter_sublist)
  | c + 1, s => by
    show (poolDrop _ _ _ s).Nodup
    unfold poolDrop
    split
    · exact (pool_nd h c s).sublist (List.eraseIdx_sublist _ _)
    · exact pool_nd h c s
theorem pool_mono {F : List (Nat × Sign)} {G : List Nat} {pool : Pool} {t : Sign} {x : Nat} {c : Nat} : ∀ d, x ∈ poolAt F G pool (c + d) t → x ∈ poolAt F G pool c t
  | 0, h => h
  | d + 1, h => pool_mono d (poolDrop_sub h)
/-- who was picked is gone -/
theorem pool_gone {F F2 : List (Nat × Sign)} {G : List Nat} (h : (F2.map (·.1)).Nodup) {c g x : Nat} {a : Nat × Sign} {t : Sign} (ha : F[c]? = some a) (hg : G[c]? = some g)
    (hx : (poolAt F G (pool0 F2) c a.2)[g]? = some x) : x ∉ poolAt F G (pool0 F2) (c + 1) t := fun hm => by
  have e1 : (F.map (·.2)).getD c (0, []) = a.2 := by rw [List.getD_eq_getElem?_getD, List.getElem?_map, ha]; rfl
  have e2 : G.getD c 0 = g := by rw [List.getD_eq_getElem?_getD, hg]; rfl
  have hm2 : x ∈ poolDrop (poolAt F G (pool0 F2) c) a.2 g t := by
    rw [← e1, ← e2]
    exact hm
  have m1 := pool0_mem (poolAt_sub (List.mem_of_getElem? hx))
  have m2 := pool0_mem (poolAt_sub (poolDrop_sub hm2))
  have : a.2 = t := by
    obtain ⟨i, hi⟩ := List.getElem?_of_mem m1
    obtain ⟨j, hj⟩ := List.getElem?_of_mem m2
    have hi' : (F2.map (·.1))[i]? = some x := by rw [List.getElem?_map, hi]; rfl
    have hj' : (F2.map (·.1))[j]? = some x := by rw [List.getElem?_map, hj]; rfl
    have hij : i = j := nd_at10 h hi' hj'
    subst hij
    rw [hi] at hj
    exact congrArg Prod.snd (Option.some.inj hj)
  subst this
  unfold poolDrop at hm2
  rw [if_pos rfl] at hm2
  obtain ⟨i, hi, hne, e⟩ := List.mem_eraseIdx_iff_getElem.mp hm2
  exact hne (nd_at10 (pool_nd h c a.2) (by rw [List.getElem?_eq_getElem hi, e]) hx)
structure NoBar (ms hs : List Int) (P : List Row) : Prop where
  rows : ∀ r ∈ P, RowP ms hs.length r
  good : Good ms hs P
  perm : (sgns ms hs (P.map (·.1))).Perm (sgns ms hs (P.map (·.2)))
  one : ∀ a ∈ fr1 ms hs P, a.2 = sgA ms hs P 0 a.1
  two : ∀ a ∈ fr2 ms hs P, a.2 = sgA ms hs P 1 a.1
theorem noBar {ms hs : List Int} {P : List Row} (hM : MsP ms) (hP : ∀ r ∈ P, RowP ms hs.length r) (nd1 : (P.map (·.1)).Nodup) (nd2 : (P.map (·.2)).Nodup)
    (h : allBs ms hs P = []) : NoBar ms hs P := by
  obtain ⟨hg, hp⟩ := (goes_iff hM hP nd1 nd2).mp h
  have hr := (good_iff hM hP).mpr hg
  have q0 : sgns ms hs (P.map (·.1)) = sgN ms hs P 0 := sgns_side hr (s := 0) (by omega) nd1
  have q1 : sgns ms hs (P.map (·.2)) = sgN ms hs P 1 := sgns_side hr (s := 1) (by omega) nd2
  refine ⟨hP, hg, by rw [q0, q1]; exact hp, fun a ha => ?_, fun a ha => ?_⟩
  · rw [(free_mem8 ha).2.1]
    have : diffs ms (P.map (sd 0)) a.1 = gapsN ms P 0 a.1 := diffs_gaps (hs := hs) hr (s := 0) (by omega) nd1 a.1
    exact congrArg (fun z => (hs.getD a.1 0, z)) this
  · rw [(free_mem8 ha).2.1]
    have : diffs ms (P.map (sd 1)) a.1 = gapsN ms P 1 a.1 := diffs_gaps (hs := hs) hr (s := 1) (by omega) nd2 a.1
    exact congrArg (fun z => (hs.getD a.1 0, z)) this
theorem countP_map_sign (F : List (Nat × Sign)) (s : Sign) : (F.countP fun a => cB (a.2 = s)) = (F.map (·.2)).countP fun a => cB (a = s) := by
  rw [List.countP_map]
  rfl
theorem NoBar.pool0 {ms hs : List Int} {P : List Row} (h : NoBar ms hs P) (s : Sign) : (Wl.pool0 (fr2 ms hs P) s).length = (fr1 ms hs P).countP fun a => cB (a.2 = s) := by
  have e1 : (Wl.pool0 (fr2 ms hs P) s).length = (fr2 ms hs P).countP fun a => cB (a.2 = s) := by
    unfold Wl.pool0
    rw [List.length_map, List.countP_eq_length_filter]
  rw [e1, countP_map_sign, countP_map_sign]
  exact (List.Perm.countP_eq _ h.perm).symm
/-- the leads that digits choose -/
theorem NoBar.ex_lead {ms hs : List Int} {P : List Row} (h : NoBar ms hs P) {G : List Nat} (hl : G.length = (fr1 ms hs P).length)
    (hG : ∀ (c : Nat) a g, (fr1 ms hs P)[c]? = some a → G[c]? = some g → g < ((fr1 ms hs P).drop c).countP fun b => cB (b.2 = a.2)) : ∃ L, LeadC ms hs P G L := by
  have hpl := pool_len hl h.pool0 hG
  refine ⟨fun x => match P.find? (fun r => decide (r.1.1 = x)) with
    | some r => r.2.1
    | none => (poolAt (fr1 ms hs P) G (Wl.pool0 (fr2 ms hs P)) (((fr1 ms hs P).map (·.1)).idxOf x) (((fr1 ms hs P).map (·.2)).getD (((fr1 ms hs P).map (·.1)).idxOf x) (0, []))).getD (G.getD (((fr1 ms hs P).map (·.1)).idxOf x) 0) 0, fun r hr => ?_, fun c a d ha hd => ?_, hl⟩
  · cases e : P.find? (fun q => decide (q.1.1 = r.1.1)) with
    | none => rw [List.find?_eq_none] at e; exact absurd (decide_eq_true rfl) (e r hr)
    | some q =>
      have h1 := of_decide_eq_true (List.find?_some (p := fun q : Row => decide (q.1.1 = r.1.1)) e)
      exact (h.good.stem q (List.mem_of_find?_eq_some e) r hr).mp h1
  · have hfree := free_mem8 (List.mem_of_getElem? ha)
    have e : P.find? (fun q => decide (q.1.1 = a.1)) = none := by
      rw [List.find?_eq_none]
      intro q hq z
      exact firstOf_none.mp hfree.2.2 q.1 (List.mem_map.mpr ⟨q, hq, rfl⟩) (of_decide_eq_true z)
    rw [e]
    have hc1 : ((fr1 ms hs P).map (·.1))[c]? = some a.1 := by rw [List.getElem?_map, ha]; rfl
    have hm : a.1 ∈ (fr1 ms hs P).map (·.1) := List.mem_of_getElem? hc1
    have hidx : ((fr1 ms hs P).map (·.1)).idxOf a.1 = c := by
      have h2 := List.getElem_idxOf (List.idxOf_lt_length_of_mem hm)
      exact nd_at10 (frees_nd ms hs _) (by rw [List.getElem?_eq_getElem (List.idxOf_lt_length_of_mem hm), h2]) hc1
    dsimp only
    rw [hidx, show ((fr1 ms hs P).map (·.2)).getD c (0, []) = a.2 by rw [List.getD_eq_getElem?_getD, List.getElem?_map, ha]; rfl, show G.getD c 0 = d by rw [List.getD_eq_getElem?_getD, hd]; rfl]
    have hlt : d < (poolAt (fr1 ms hs P) G (Wl.pool0 (fr2 ms hs P)) c a.2).length := by
      rw [hpl c (Nat.le_of_lt (List.getElem?_eq_some_iff.mp ha).1) a.2]
      exact hG c a d ha hd
    rw [List.getD_eq_getElem?_getD, List.getElem?_eq_getElem hlt]
    rfl
theorem NoBar.free_at {ms hs : List Int} {P : List Row} {G : List Nat} {L : Nat → Nat} (hL : LeadC ms hs P G L) {x : Nat} (hx : x ∈ (fr1 ms hs P).map (·.1)) :
    ∃ (c : Nat) (a : Nat × Sign) (g : Nat), (fr1 ms hs P)[c]? = some a ∧ G[c]? = some g ∧ a.1 = x ∧ (poolAt (fr1 ms hs P) G (Wl.pool0 (fr2 ms hs P)) c a.2)[g]? = some (L x) ∧ (L x, a.2) ∈ fr2 ms hs P := by
  obtain ⟨a, ha, rfl⟩ := List.mem_map.mp hx
  obtain ⟨c, hc⟩ := List.getElem?_of_mem ha
  have hcl := (List.getElem?_eq_some_iff.mp hc).1
  have hg := List.getElem?_eq_getElem (show c < G.length by rw [hL.len]; exact hcl)
  have hp := hL.pick c a _ hc hg
  exact ⟨c, a, _, hc, hg, rfl, hp, pool0_mem (poolAt_sub (List.mem_of_getElem? hp))⟩
theorem NoBar.inj {ms hs : List Int} {P : List Row} (h : NoBar ms hs P) {G : List Nat} {L : Nat → Nat} (hL : LeadC ms hs P G L) {x y : Nat} (hx : x < hs.length) (hy : y < hs.length) (e : L x = L y) : x = y := by
  have tf : ∀ {x y : Nat}, (∃ i < P.length, ∃ r, P[i]? = some r ∧ r.1.1 = x) → y ∈ (fr1 ms hs P).map (·.1) → L x = L y → False := by
    rintro x y ⟨i, hi, r, hr, rfl⟩ hy e
    have hrm := List.mem_of_getElem? hr
    obtain ⟨c, a, g, _, _, _, _, hm⟩ := NoBar.free_at hL hy
    rw [hL.told r hrm] at e
    exact firstOf_none.mp (free_mem8 hm).2.2 r.2 (List.mem_map.mpr ⟨r, hrm, rfl⟩) e
  rcases told_or_free (ms := ms) (P := P) hx with h1 | h1
  · rcases told_or_free (ms := ms) (P := P) hy with h2 | h2
    · obtain ⟨i, hi, r, hr, rfl⟩ := h1
      obtain ⟨j, hj, q, hq, rfl⟩ := h2
      have m1 := List.mem_of_getElem? hr
      have m2 := List.mem_of_getElem? hq
      rw [hL.told r m1, hL.told q m2] at e
      exact (h.good.stem r m1 q m2).mpr e
    · exact (tf h1 h2 e).elim
  · rcases told_or_free (ms := ms) (P := P) hy with h2 | h2
    · exact (tf h2 h1 e.symm).elim
    · obtain ⟨c, a, g, ha, hg, ea, hp, _⟩ := NoBar.free_at hL h1
      obtain ⟨d, b, k, hb, hk, eb, hq, _⟩ := NoBar.free_at hL h2
      have nd := frees_nd ms hs (P.map (·.2))
      have later : ∀ {c d : Nat} {a b : Nat × Sign} {g k x y : Nat}, (fr1 ms hs P)[c]? = some a → G[c]? = some g → (poolAt (fr1 ms hs P) G (Wl.pool0 (fr2 ms hs P)) c a.2)[g]? = some x →
          (poolAt (fr1 ms hs P) G (Wl.pool0 (fr2 ms hs P)) d b.2)[k]? = some y → x = y → c < d → False := by
        intro c d a b g k x y ha hg hp hq e hcd
        subst e
        have hm := List.mem_of_getElem? hq
        obtain ⟨u, rfl⟩ : ∃ u, d = c + 1 + u := ⟨d - (c + 1), by omega⟩
        exact pool_gone nd ha hg hp (pool_mono u hm)
      rcases Nat.lt_trichotomy c d with q | q | q
      · exact (later ha hg hp hq e q).elim
      · subst q
        rw [ha] at hb
        cases hb
        rw [← ea, ← eb]
      · exact (later hb hk hq hp e.symm q).elim
theorem NoBar.hue {ms hs : List Int} {P : List Row} (h : NoBar ms hs P) {G : List Nat} {L : Nat → Nat} (hL : LeadC ms hs P G L) {x : Nat} (hx : x < hs.length) : hs.getD x 0 = hs.getD (L x) 0 := by
  rcases told_or_free (ms := ms) (P := P) hx with ⟨i, hi, r, hr, rfl⟩ | h1
  · have m1 := List.mem_of_getElem? hr
    rw [hL.told r m1]
    exact h.good.hue r m1
  · obtain ⟨c, a, g, ha, _, rfl, _, hm⟩ := NoBar.free_at hL h1
    have e1 := (free_mem8 (List.mem_of_getElem? ha)).2.1
    have e2 := (free_mem8 hm).2.1
    have := e1.symm.trans e2
    exact congrArg Prod.fst this
theorem NoBar.lead {ms hs : List Int} {P : List Row} (h : NoBar ms hs P) (hR : RowsP ms hs P) {G : List Nat} {L : Nat → Nat} (hL : LeadC ms hs P G L) : LeadP hs ((List.range hs.length).map L) := by
  refine ⟨by rw [List.length_map, List.length_range], ?_, fun x y e => ?_⟩
  · unfold List.Nodup
    rw [List.pairwise_map]
    refine List.Pairwise.imp_of_mem (fun {i j} hi hj z e => ?_) List.pairwise_lt_range
    have := h.inj hL (List.mem_range.mp hi) (List.mem_range.mp hj) e
    omega
  · have hx : x < hs.length := by
      have := (List.getElem?_eq_some_iff.mp e).1
      rwa [List.length_map, List.length_range] at this
    rw [List.getElem?_map, List.getElem?_range hx] at e
    cases e
    have hlt := hL.lt hR hx
    refine ⟨hlt, ?_⟩
    have := h.hue hL hx
    rw [List.getD_eq_getElem?_getD, List.getD_eq_getElem?_getD, List.getElem?_eq_getElem hx, List.getElem?_eq_getElem hlt] at this
    rw [List.getElem?_eq_getElem hx, List.getElem?_eq_getElem hlt]
    exact congrArg some this.symm
/-- what a row settles of its stem and another one -/
def stF (ms : List Int) (L : Nat → Nat) (r : Row) (e : Nat) : List Int := lessF ms (r.2.2.getD (L e) []) (r.1.2.getD e [])
theorem NoBar.st_tie {ms hs : List Int} {P : List Row} (hM : MsP ms) (h : NoBar ms hs P) (hR : RowsP ms hs P) {G : List Nat} {L : Nat → Nat} (hL : LeadC ms hs P G L) {r : Row} (hr : r ∈ P) {e : Nat} (he : e < hs.length) : TieP ms (stF ms L r e) :=
  less_tie hM (says_tie (h.rows r hr).snd (hL.lt hR he)) (says_tie (h.rows r hr).fst he)
theorem NoBar.settle {ms hs : List Int} {P : List Row} (hM : MsP ms) (h : NoBar ms hs P) (hR : RowsP ms hs P) {G : List Nat} {L : Nat → Nat} (hL : LeadC ms hs P G L)
    {r q : Row} (hr : r ∈ P) (hq : q ∈ P) {e f : Nat} (he : e < hs.length) (hf : f < hs.length) (hne : e ≠ r.1.1) (hnf : f ≠ q.1.1)
    (h1 : max r.1.1 e = max q.1.1 f) (h2 : min r.1.1 e = min q.1.1 f) : stF ms L r e = stF ms L q f := by
  have cross : ∀ {r q : Row}, r ∈ P → q ∈ P → r.1.1 ≠ q.1.1 → stF ms L r q.1.1 = stF ms L q r.1.1 := by
    intro r q hr hq hne
    have lr := (h.rows r hr).fst.lt
    have lq := (h.rows q hq).fst.lt
    have g := h.good.tie r hr q hq hne
    rw [← hL.told r hr, ← hL.told q hq] at g
    exact less_swap10 hM (says_tie (h.rows r hr).fst lq) (says_tie (h.rows q hq).fst lr) (says_tie (h.rows r hr).snd (hL.lt hR lq)) (says_tie (h.rows q hq).snd (hL.lt hR lr)) g
  by_cases z : r.1.1 = q.1.1
  · have ef : e = f := by omega
    subst ef
    rcases told_or_free (ms := ms) (P := P) he with ⟨i, hi, p, hp, rfl⟩ | h3
    · have hpm := List.mem_of_getElem? hp
      rw [cross hr hpm (Ne.symm hne), cross hq hpm (Ne.symm hnf), z]
    · obtain ⟨c, a, g, ha, _, rfl, _, hm⟩ := NoBar.free_at hL h3
      have e1 := h.one a (List.mem_of_getElem? ha)
      have e2 := h.two _ hm
      have hrel := ((sg_rel hM h.rows he (hL.lt hR he)).mp (e1.symm.trans e2)).2 r hr q hq z
      exact less_swap10 hM (says_tie (h.rows r hr).fst he) (says_tie (h.rows q hq).fst he) (says_tie (h.rows r hr).snd (hL.lt hR he)) (says_tie (h.rows q hq).snd (hL.lt hR he)) hrel
  · have e1 : e = q.1.1 := by omega
    have e2 : f = r.1.1 := by omega
    subst e1
    subst e2
    exact cross hr hq z
theorem leads_getD {n : Nat} {L : Nat → Nat} {e : Nat} (he : e < n) : ((List.range n).map L).getD e 0 = L e := by
  rw [List.getD_eq_getElem?_getD, List.getElem?_map, List.getElem?_range he]
  rfl
theorem NoBar.ex_move {ms hs : List Int} {P : List Row} (hM : MsP ms) (h : NoBar ms hs P) (hR : RowsP ms hs P) {G : List Nat} {L : Nat → Nat} (hL : LeadC ms hs P G L)
    {D : List Nat} (hl : D.length = (prs8 ms hs P).length) (hD : ∀ g ∈ D, g < (ties8 ms).length) : ∃ M, MoveC ms hs P ((List.range hs.length).map L) D M := by
  refine ⟨fun x y => match P.find? (fun r => decide (r.1.1 = x) || decide (r.1.1 = y)) with
    | some r => stF ms L r (if r.1.1 = x then y else x)
    | none => (ties8 ms).getD (D.getD ((prs8 ms hs P).idxOf (x, y)) 0) [], fun r hr e he hne => ?_, fun c p d hp hd => ?_, hl⟩
  · rw [leads_getD he]
    have lr := (h.rows r hr).fst.lt
    cases z : P.find? (fun q => decide (q.1.1 = max r.1.1 e) || decide (q.1.1 = min r.1.1 e)) with
    | none =>
      rw [List.find?_eq_none] at z
      have := z r hr
      rw [Bool.or_eq_true, decide_eq_true_eq, decide_eq_true_eq] at this
      exact absurd (by omega) this
    | some q =>
      have hqm := List.mem_of_find?_eq_some z
      have hq := List.find?_some z
      rw [Bool.or_eq_true, decide_eq_true_eq, decide_eq_true_eq] at hq
      show stF ms L q (if q.1.1 = max r.1.1 e then min r.1.1 e else max r.1.1 e) = stF ms L r e
      split
      · rename_i k
        exact h.settle hM hR hL hqm hr (by omega) he (by omega) hne (by omega) (by omega)
      · rename_i k
        exact h.settle hM hR hL hqm hr (by omega) he (by omega) hne (by omega) (by omega)
  · have hpm := List.mem_of_getElem? hp
    obtain ⟨m1, m2, _⟩ := twos8_mem.mp hpm
    have nofirst : ∀ x ∈ (fr1 ms hs P).map (·.1), ∀ q ∈ P, q.1.1 ≠ x := fun x hx q hq => by
      obtain ⟨a, ha, rfl⟩ := List.mem_map.mp hx
      exact firstOf_none.mp (free_mem8 ha).2.2 q.1 (List.mem_map.mpr ⟨q, hq, rfl⟩)
    have z : P.find? (fun q => decide (q.1.1 = p.1) || decide (q.1.1 = p.2)) = none := by
      rw [List.find?_eq_none]
      intro q hq k
      rw [Bool.or_eq_true, decide_eq_true_eq, decide_eq_true_eq] at k
      exact k.elim (nofirst _ m1 q hq) (nofirst _ m2 q hq)
    rw [z]
    have hnd : (prs8 ms hs P).Nodup := twos8_nd (frees_nd ms hs _)
    have hidx : (prs8 ms hs P).idxOf (p.1, p.2) = c := by
      have hm : (p.1, p.2) ∈ prs8 ms hs P := hpm
      have h2 := List.getElem_idxOf (List.idxOf_lt_length_of_mem hm)
      exact nd_at10 hnd (by rw [List.getElem?_eq_getElem (List.idxOf_lt_length_of_mem hm), h2]) hp
    show (ties8 ms)[d]? = some ((ties8 ms).getD (D.getD ((prs8 ms hs P).idxOf (p.1, p.2)) 0) [])
    rw [hidx, show D.getD c 0 = d by rw [List.getD_eq_getElem?_getD, hd]; rfl]
    have hlt := hD d (List.mem_of_getElem? hd)
    rw [List.getD_eq_getElem?_getD, List.getElem?_eq_getElem hlt]
    rfl
/-- every number has a way -/
theorem NoBar.ex_way {ms hs : List Int} {P : List Row} (hM : MsP ms) (hn : hs.length ≤ 16) (h : NoBar ms hs P) (hR : RowsP ms hs P) (n : Int) : ∃ L M, WayC ms hs P n L M := by
  have hlim := lims8_bd (P := P) hM hn
  have hpos : ∀ a ∈ lims8 ms hs P, 0 < a := fun a ha => by have := hlim a ha; omega
  have hll := lims8_len (ms := ms) (hs := hs) (P := P)
  have hdl := digN_len n (lims8 ms hs P)
  have hsl : (likeS (sgns ms hs (P.map (·.1)))).length = (fr1 ms hs P).length := by rw [likeS_len, sgns, List.length_map]
  obtain ⟨L, hL⟩ := h.ex_lead (G := (digN n (lims8 ms hs P)).take (fr1 ms hs P).length) (by rw [List.length_take]; omega) fun c a g ha hg => by
    have hc := (List.getElem?_eq_some_iff.mp ha).1
    rw [List.getElem?_take_of_lt hc] at hg
    have hs2 : (sgns ms hs (P.map (·.1)))[c]? = some a.2 := by rw [sgns, List.getElem?_map, ha]; rfl
    have hlc := likeS_get _ c _ hs2
    have h3 : (lims8 ms hs P)[c]? = some (((sgns ms hs (P.map (·.1))).drop c).countP (fun b => cB (b = a.2)) : Nat) := by
      unfold lims8
      rw [List.getElem?_append_left (by omega)]
      exact hlc
    have := digN_lt hpos hg h3
    rw [countP_map_sign, List.map_drop]
    have e : (sgns ms hs (P.map (·.1))) = (fr1 ms hs P).map (·.2) := rfl
    rw [e] at this
    omega
  obtain ⟨M, hMv⟩ := h.ex_move hM hR hL (D := (digN n (lims8 ms hs P)).drop (fr1 ms hs P).length) (by rw [List.length_drop]; omega) fun g hg => by
    obtain ⟨c, hc⟩ := List.getElem?_of_mem hg
    have hcl := (List.getElem?_eq_some_iff.mp hc).1
    rw [List.length_drop] at hcl
    rw [List.getElem?_drop] at hc
    have h3 : (lims8 ms hs P)[(fr1 ms hs P).length + c]? = some (D.prod (dints ms)) := by
      unfold lims8
      rw [List.getElem?_append_right (by omega), hsl, List.getElem?_replicate, if_pos (by omega)]
    have := digN_lt hpos hc h3
    have h4 := ties8_len ms fun m hm => by have := hM.2.2 m hm; omega
    omega
  exact ⟨L, M, hL, hMv⟩
theorem tabM_tt10 {n : Nat} {M : Nat → Nat → List Int} {x y : Nat} (hx : x < n) (hy : y < x) : tt (tabM n M) x y = M x y := by
  refine tt_of (r := (List.range x).map fun y => M x y) ?_ ?_
  · unfold tabM
    rw [List.getElem?_map, List.getElem?_range hx]; rfl
  · rw [List.getElem?_map, List.getElem?_range hy]; rfl
theorem tabM_tab10 {ms : List Int} {n : Nat} {M : Nat → Nat → List Int} (h : ∀ x y, x < n → y < x → TieP ms (M x y)) : TabP ms n (tabM n M) := by
  refine ⟨by rw [tabM, List.length_map, List.length_range], fun i r e => ?_⟩
  have hi : i < n := by
    have := (List.getElem?_eq_some_iff.mp e).1
    rw [tabM, List.length_map, List.length_range] at this
    exact this
  unfold tabM at e
  rw [List.getElem?_map, List.getElem?_range hi] at e
  cases e
  refine ⟨by rw [List.length_map, List.length_range], fun t ht => ?_⟩
  obtain ⟨y, hy, rfl⟩ := List.mem_map.mp ht
  exact h i y hi (List.mem_range.mp hy)
/-- a way of a part without bars is a turning that leads as the rows want -/
theorem NoBar.turn {ms hs : List Int} {P : List Row} (hM : MsP ms) (h : NoBar ms hs P) (hR : RowsP ms hs P) {n : Int} {L : Nat → Nat} {M : Nat → Nat → List Int} (hW : WayC ms hs P n L M) :
    TurnP ms hs ((List.range hs.length).map L, tabM hs.length M) ∧ ∀ r ∈ P, ledP ms ((List.range hs.length).map L, tabM hs.length M) r.1 = r.2 := by
  have hL := hW.lead
  have hrow : ∀ r ∈ P, ∀ e < hs.length, e ≠ r.1.1 → M (max r.1.1 e) (min r.1.1 e) = stF ms L r e := fun r hr e he hne => by
    have := hW.move.row r hr e he hne
    rw [leads_getD he] at this
    exact this
  have hmt : ∀ x y, x < hs.length → y < x → TieP ms (M x y) := fun x y hx hy => by
    rcases mvS_all (ms := ms) hR hx hy with hp | ⟨i, hi, r, hr, e, he, hne, hxy⟩
    · obtain ⟨c, hc⟩ := List.getElem?_of_mem hp
      have hcl := (List.getElem?_eq_some_iff.mp hc).1
      have hg := List.getElem?_eq_getElem (show c < ((digN n (lims8 ms hs P)).drop (fr1 ms hs P).length).length by rw [hW.move.len]; exact hcl)
      have := List.mem_of_getElem? (hW.move.free c _ _ hc hg)
      exact ties8_tie ms _ this
    · have hrm := List.mem_of_getElem? hr
      have e1 : x = max r.1.1 e := congrArg Prod.fst hxy
      have e2 : y = min r.1.1 e := congrArg Prod.snd hxy
      rw [e1, e2, hrow r hrm e he hne]
      exact h.st_tie hM hR hL hrm he
  have ht : TurnP ms hs ((List.range hs.length).map L, tabM hs.length M) := ⟨h.lead hR hL, tabM_tab10 hmt⟩
  refine ⟨ht, fun r hr => ?_⟩
  have h1 := (h.rows r hr).fst
  have h2 := (h.rows r hr).snd
  have e0 : L r.1.1 = r.2.1 := hL.told r hr
  have hgs : ((List.range hs.length).map L).getD r.1.1 0 = r.2.1 := by rw [leads_getD h1.lt, e0]
  refine Prod.ext hgs ?_
  refine List.ext_getElem? fun c => ?_
  rcases Nat.lt_or_ge c hs.length with hc | hc
  · obtain ⟨b, hb, hb2⟩ := ht.lead.surj hc
    have hb2' : ((List.range hs.length).map L)[b]? = some c := hb2
    have hcb : L b = c := by
      rw [List.getElem?_map, List.getElem?_range hb] at hb2'
      exact Option.some.inj hb2'
    have lg := led_get (a := r.1.1) (S := r.1.2) ht h1 hb2
    have lg : (ledP ms ((List.range hs.length).map L, tabM hs.length M) r.1).2[c]? = some (if b = r.1.1 then zt ms else sumF ms (r.1.2.getD b []) (tabT (tabM hs.length M) r.1.1 b)) := lg
    rw [lg]
    by_cases e : b = r.1.1
    · rw [if_pos e]
      have := h2.own
      rw [← e0, ← e, hcb] at this
      exact this.symm
    · rw [if_neg e]
      obtain ⟨t, ht2⟩ := says_get (c := c) h2.len hc
      rw [ht2]
      congr 1
      have htab : tabT (tabM hs.length M) r.1.1 b = stF ms L r b := by
        rw [← hrow r hr b hb e]
        unfold tabT
        split
        · rename_i q
          rw [tabM_tt10 h1.lt q, Nat.max_eq_left (by omega), Nat.min_eq_right (by omega)]
        · rename_i q
          rw [tabM_tt10 hb (by omega), Nat.max_eq_right (by omega), Nat.min_eq_left (by omega)]
      rw [htab]
      unfold stF
      rw [sum_less10 hM (says_tie h1 hb) (by rw [hcb]; exact says_tie h2 hc), hcb]
      exact getD_of ht2
  · have l1 := (led_place hM ht (p := r.1) h1).len
    rw [List.getElem?_eq_none (by rw [l1]; exact hc), List.getElem?_eq_none (by rw [h2.len]; exact hc)]

def numF : Int → List Int → List Int → Int
  | n, g :: G, l :: L => numF (n * l + g) G L
  | n, _, _ => n
theorem numF_snoc : ∀ (G L : List Int) (n g l : Int), G.length = L.length → numF n (G ++ [g]) (L ++ [l]) = numF n G L * l + g
  | [], [], _, _, _, _ => rfl
  | a :: G, b :: L, n, g, l, h => numF_snoc G L (n * b + a) g l (by simpa using h)
section
variable {K : PySem.W.Frag} {l : Option Addr} {w : World} {i : Nat} {t1 t2 tr : TS} {ρ : Ro} {m : Nat} {Nx0 : Nat → Ro → Prop} {Rt : Nat → D → Prop} {tA : TA}
end

def SpOfV (K : PySem.W.Frag) : Sp := fun vs H Q _ => ∃ (l a : Addr) (xs : List V) (B : Hp) (m : Nat), vs = [.ref l, .ref a] ∧ Same B H ∧ Hand H l m ∧ B l = none ∧ (SqL K H a xs ∨ SqT K H a xs) ∧ a ≠ l ∧
  m < 10000000 ∧ xs ≠ [] ∧ xs.length < 1000000 ∧ ∀ v m' B2 H2, v ∈ xs → m' ≤ m + 1 → Hand H2 l m' → Same B B2 → Same B2 H2 → (∀ b o, b ≠ l → H b = some o → H2 b = some o) → (∀ b, H b ≠ none → B b = none → B2 b = none) → Q v H2
theorem sq_keep {K : PySem.W.Frag} {H H2 : Hp} {a l : Addr} {xs : List V} (n : a ≠ l) (k : ∀ b o, b ≠ l → H b = some o → H2 b = some o) (h : SqL K H a xs ∨ SqT K H a xs) : SqL K H2 a xs ∨ SqT K H2 a xs := by
  rcases h with h | h
  · refine .inl ?_
    rcases h with (h | ⟨o, h⟩) | h
    · exact .inl (.inl (k _ _ n h))
    · exact .inl (.inr ⟨o, k _ _ n h⟩)
    · exact .inr h
  · refine .inr ?_
    rcases h with (h | ⟨o, h⟩) | h
    · exact .inl (.inl (k _ _ n h))
    · exact .inl (.inr ⟨o, k _ _ n h⟩)
    · exact .inr h
section
variable {K : PySem.W.Frag} {l : Option Addr} {ρ : Ro} {m : Nat} {Φ : Nat → D → Prop} {te : TE}
theorem e_ofOwn {E : XK} {i j : Nat} {ds : List D} (hi : ρ[i]? = some (some .hand)) (hj : ρ[j]? = some (some (.own ds)))
    (hm : m < 10000000) (hne : ds ≠ []) (hl : ds.length < 1000000) (q : ∀ (m2 : Nat) d, m2 ≤ m + 1 → d ∈ ds → Φ m2 d) :
    EvC K l (tCall (SpOfV K) [] E (tCons (tVar i) (tCons (tVar j) tNil))) ρ m Φ := by
  intro Z B H σ Q ok k
  obtain ⟨v0, e0, a0, ha, hv⟩ := ok.sl i _ hi
  subst hv
  obtain ⟨v1, e1, a, xs, rfl, q1, q2, q3, q4, q5⟩ := ok.sl j _ hj
  refine ⟨_, e0, _, e1, ?_⟩
  refine ⟨a0, a, xs, B, m, rfl, ok.sub, (ok.hand a0 ha).1, (ok.hand a0 ha).2, .inl (SqL.of q1), fun z => q4 (by rw [z]; exact ha), hm, fun z => hne ?_, by rw [q5.length]; exact hl, fun v m' B2 H2 hv h1 hh s1 s2 s3 s4 => ?_⟩
  · have := q5.length
    rw [z] at this
    exact List.eq_nil_of_length_eq_zero this.symm
  · obtain ⟨c, hc⟩ := List.getElem?_of_mem hv
    obtain ⟨d, hd, iv⟩ := q5.get hc
    obtain ⟨o2, f2⟩ := ok.step (m' := m') s1 s2 (fun b e => by rw [ha] at e; cases e; exact hh) (fun b o n e => s3 b o (fun z => n (z ▸ ha)) e) s4
    exact k v d m' B2 H2 o2 f2 (iv.mono s1) (q m' d h1 (List.mem_of_getElem? hd))
theorem e_ofD {E : XK} {i : Nat} (hi : ρ[i]? = some (some .hand))
    (h : EvC K l te ρ m fun m1 c => preOf m1 [c] ∧ ∀ m2 d, psiOf [c] m1 m2 d → Φ m2 d) :
    EvC K l (tCall (SpOfV K) [] E (tCons (tVar i) (tCons te tNil))) ρ m Φ := by
  intro Z B H σ Q ok k
  obtain ⟨v0, e0, a0, ha, hv⟩ := ok.sl i _ hi
  subst hv
  refine ⟨_, e0, ?_⟩
  refine h Z B H σ _ ok fun v c m1 B1 H1 o1 f1 i1 g1 => ?_
  obtain ⟨⟨hm, c', ds, e, hc, hne, hl⟩, q⟩ := g1
  cases (List.cons.inj e).1
  have go : ∀ (a : Addr) (xs : List V), v = .ref a → (SqL K H1 a xs ∨ SqT K H1 a xs) → (∃ o, B1 a = some o) → IsAll K B1 xs ds → tNil σ H1 fun xs' H2 => SpOfV K ((V.ref a0 :: v :: xs') ++ []) H2 Q E := by
    intro a xs hv hsq hB hall
    subst hv
    refine ⟨a0, a, xs, B1, m1, rfl, o1.sub, (o1.hand a0 ha).1, (o1.hand a0 ha).2, hsq, fun z => ?_, hm, fun z => hne ?_, by rw [hall.length]; exact hl, fun v m' B2 H2 hv h1 hh s1 s2 s3 s4 => ?_⟩
    · obtain ⟨o, hB⟩ := hB
      rw [z, (o1.hand a0 ha).2] at hB
      cases hB
    · have := hall.length
      rw [z] at this
      exact List.eq_nil_of_length_eq_zero this.symm
    · obtain ⟨x, hx⟩ := List.getElem?_of_mem hv
      obtain ⟨d, hd, iv⟩ := hall.get hx
      obtain ⟨o2, f2⟩ := o1.step (m' := m') s1 s2 (fun b e => by rw [ha] at e; cases e; exact hh) (fun b o n e => s3 b o (fun z => n (z ▸ ha)) e) s4
      exact k v d m' B2 H2 o2 (f1.trans f2) (iv.mono s1) (q m' d ⟨h1, _, ds, rfl, hc, List.mem_of_getElem? hd⟩)
  cases i1 with
  | @lst a xs _ hT is =>
    cases hc
    exact go a xs rfl (.inl (SqL.of (o1.sub _ _ hT))) ⟨_, hT⟩ is
  | @tup a xs _ hT is hcl =>
    cases hc
    obtain ⟨o, ys, e, _⟩ := hcl
    exact go a xs rfl (.inr (sameT o1.sub hT)) ⟨_, e⟩ is
  | _ => cases hc
end

theorem prodL_append (A B : List Int) : D.prod (dints (A ++ B)) = D.prod (dints A) * D.prod (dints B) := by
  induction A with
  | nil => show D.prod (dints B) = 1 * D.prod (dints B); rw [Int.one_mul]
  | cons a A ih =>
    show a * D.prod (dints (A ++ B)) = a * D.prod (dints A) * D.prod (dints B)
    rw [ih, Int.mul_assoc]
theorem prodL_rep (z : Int) : ∀ k, D.prod (dints (List.replicate k z)) = z ^ k
  | 0 => by rw [Int.pow_zero]; rfl
  | k + 1 => by
    show z * D.prod (dints (List.replicate k z)) = z ^ (k + 1)
    rw [prodL_rep z k, Int.pow_succ, Int.mul_comm]
def triN : Nat → Nat
  | 0 => 0
  | k + 1 => triN k + k
theorem triN_two : ∀ k, 2 * triN k = k * (k - 1)
  | 0 => rfl
  | k + 1 => by
    have ih := triN_two k
    rw [triN, Nat.add_sub_cancel, Nat.mul_add, ih]
    cases k with
    | zero => rfl
    | succ k => rw [Nat.add_sub_cancel, Nat.mul_comm 2, ← Nat.mul_add, Nat.mul_comm]
theorem twos8_tri (F : List Nat) (h : F.Pairwise (· < ·)) : (twos8 F).length = triN F.length := by
  have e1 : (twos8 F).length = (F.map fun s => F.countP fun l => decide (l < s)).sum := by
    unfold twos8
    rw [List.length_flatMap]
    congr 1
    refine List.map_congr_left fun s _ => ?_
    rw [List.length_map, List.countP_eq_length_filter]
  rw [e1]
  clear e1
  induction F with
  | nil => rfl
  | cons a G ih =>
    rw [List.pairwise_cons] at h
    rw [List.map_cons, List.sum_cons, List.length_cons, triN, ← ih h.2]
    have e0 : ((a :: G).countP fun l => decide (l < a)) = 0 := by
      rw [List.countP_eq_zero]
      intro x hx
      rcases List.mem_cons.mp hx with rfl | hx
      · simp
      · have := h.1 x hx
        simp; omega
    have e2 : (G.map fun s => (a :: G).countP fun l => decide (l < s)) = G.map fun s => (G.countP fun l => decide (l < s)) + 1 := by
      refine List.map_congr_left fun s hs => ?_
      rw [List.countP_cons, if_pos (decide_eq_true (h.1 s hs))]
    rw [e0, e2, Nat.zero_add]
    clear ih e0 e2 h
    have key : ∀ (G : List Nat) (f : Nat → Nat), (G.map fun s => f s + 1).sum = (G.map f).sum + G.length := by
      intro G f
      induction G with
      | nil => rfl
      | cons b G ih => rw [List.map_cons, List.sum_cons, ih, List.map_cons, List.sum_cons, List.length_cons]; omega
    exact key G _
section
variable {ms hs : List Int} {T U : List (List (List Int))} {Q : List (Nat × Nat)}
theorem fr1_stems (ms hs : List Int) (P : List Row) : (fr1 ms hs P).map (·.1) = freeN hs P 0 := by
  have ez : hs.zipIdx = (List.range hs.length).map fun x => (hs.getD x 0, x) := by
    apply List.ext_getElem
    · simp
    · intro i h1 h2
      rw [List.length_zipIdx] at h1
      simp [List.getD_eq_getElem?_getD, List.getElem?_eq_getElem h1]
  unfold fr1 frees freeN
  rw [ez, List.filter_map, List.map_map, List.map_map]
  have e1 : ∀ x ∈ List.range hs.length, ((fun a : Int × Nat => !(firstOf (P.map (·.1)) a.2).isSome) ∘ fun x => (hs.getD x 0, x)) x = !(toldN P 0).contains x := by
    intro x _
    show (!(firstOf (P.map (·.1)) x).isSome) = !(toldN P 0).contains x
    congr 1
    rw [Bool.eq_iff_iff, List.contains_iff_mem]
    unfold firstOf toldN
    rw [List.find?_isSome]
    constructor
    · rintro ⟨p, hp, e⟩
      obtain ⟨r, hr, rfl⟩ := List.mem_map.mp hp
      exact List.mem_map.mpr ⟨r, hr, of_decide_eq_true e⟩
    · intro hx
      obtain ⟨r, hr, e⟩ := List.mem_map.mp hx
      exact ⟨r.1, List.mem_map.mpr ⟨r, hr, rfl⟩, decide_eq_true e⟩
  rw [List.filter_congr e1]
  exact (List.map_congr_left fun x _ => rfl).trans (List.map_id _)
end
section
variable {K : PySem.W.Frag} {l : Option Addr} {ρ : Ro} {m : Nat} {Φ : Nat → D → Prop}
end
section
variable {ms : List Int} {n : Nat} {W : List (List (List Int))} {g l : Nat} {t : List Int}
end
noncomputable def lamF {α : Type} (f : Nat → α) : List Nat → Int
  | [] => 1
  | x :: F => ((1 + F.countP fun y => cB (f y = f x) : Nat) : Int) * lamF f F
section
variable {α β : Type}
theorem cB_iff {p q : Prop} (h : p ↔ q) : cB p = cB q := by rw [propext h]
theorem lam_congr {f : Nat → α} {g : Nat → β} : ∀ {F : List Nat}, (∀ x ∈ F, ∀ y ∈ F, f x = f y ↔ g x = g y) → lamF f F = lamF g F
  | [], _ => rfl
  | x :: F, h => by
    rw [lamF, lamF, lam_congr fun a ha b hb => h a (List.mem_cons_of_mem _ ha) b (List.mem_cons_of_mem _ hb)]
    rw [show (F.countP fun y => cB (f y = f x)) = F.countP fun y => cB (g y = g x) from List.countP_congr fun y hy => by
      rw [cB_iff (h y (List.mem_cons_of_mem _ hy) x List.mem_cons_self)]]
theorem lam_likeS (f : Nat → Sign) : ∀ F : List Nat, D.prod (dints (likeS (F.map f))) = lamF f F
  | [] => rfl
  | x :: F => by
    rw [List.map_cons, likeS, lamF, ← lam_likeS f F]
    show (_ : Int) * D.prod (dints (likeS (F.map f))) = _
    congr 1
    rw [List.countP_cons, List.countP_map, cB_true rfl, if_pos rfl, Nat.add_comm]
    rfl
open Classical in
theorem lam_likeD (f : Nat → D) : ∀ F : List Nat, D.prod (dints (likeD (F.map f))) = lamF f F
  | [] => rfl
  | x :: F => by
    rw [List.map_cons, likeD, lamF, ← lam_likeD f F]
    show (_ : Int) * D.prod (dints (likeD (F.map f))) = _
    congr 1
    rw [List.countP_cons, List.countP_map, if_pos (by simp), Nat.add_comm]
    congr 3
end
section
variable {ms hs : List Int} {P P2 : List Row}
theorem fr1_eq (h : NoBar ms hs P) : fr1 ms hs P = (freeN hs P 0).map fun x => (x, sgA ms hs P 0 x) := by
  rw [← fr1_stems ms hs P, List.map_map]
  refine ((List.map_congr_left fun a ha => ?_).trans (List.map_id _)).symm
  exact Prod.ext rfl (h.one a ha).symm
theorem sgns_eq (h : NoBar ms hs P) : sgns ms hs (P.map (·.1)) = (freeN hs P 0).map (sgA ms hs P 0) := by
  show (fr1 ms hs P).map (·.2) = _
  rw [fr1_eq h, List.map_map]
  rfl
theorem free_ris (hs : List Int) (P : List Row) (s : Nat) : (freeN hs P s).Pairwise (· < ·) := List.Pairwise.filter _ List.pairwise_lt_range
theorem way_lam (h : NoBar ms hs P) (hb : allBs ms hs P = []) : wayN ms hs P = lamF (sgA ms hs P 0) (freeN hs P 0) * D.prod (dints ms) ^ triN (freeN hs P 0).length := by
  unfold wayN
  rw [hb, if_pos (by rfl)]
  unfold lims8
  rw [prodL_append, prodL_rep, sgns_eq h, lam_likeS]
  unfold prs8
  rw [fr1_stems, twos8_tri _ (free_ris hs P 0)]
/-- P2 is P with a row more -/
structure More (P P2 : List Row) (r : Row) : Prop where
  mem : ∀ q, q ∈ P2 ↔ q = r ∨ q ∈ P
end
section
variable {ms hs : List Int} {P : List Row}
theorem same_nil14 (hM : MsP ms) (hP : ∀ r ∈ P, RowP ms hs.length r) (hs1 : ∀ r ∈ P, r.2 = r.1) (nd : (P.map (·.1)).Nodup) : allBs ms hs P = [] := by
  have e : P.map (·.2) = P.map (·.1) := List.map_congr_left fun r hr => hs1 r hr
  refine (goes_iff hM hP nd (by rw [e]; exact nd)).mpr ⟨⟨fun r hr => by rw [hs1 r hr], fun r hr q hq => by rw [hs1 r hr, hs1 q hq], fun r hr q hq _ => by rw [hs1 r hr, hs1 q hq]⟩, ?_⟩
  have e2 : toldN P 1 = toldN P 0 := List.map_congr_left fun r hr => by show (sd 1 r).1 = (sd 0 r).1; show r.2.1 = r.1.1; rw [hs1 r hr]
  have e3 : freeN hs P 1 = freeN hs P 0 := by unfold freeN; rw [e2]
  have hat : ∀ i, sd 1 (rowAt P i) = sd 0 (rowAt P i) := fun i => by
    by_cases hi : i < P.length
    · exact hs1 _ (List.mem_of_getElem? (rowAt_get hi))
    · rw [rowAt, List.getD_eq_getElem?_getD, List.getElem?_eq_none (by omega)]
      rfl
  rw [show sgN ms hs P 1 = sgN ms hs P 0 from ?_]
  unfold sgN
  rw [e3]
  refine List.map_congr_left fun x _ => ?_
  unfold gapsN
  congr 1
  exact List.map_congr_left fun p _ => by rw [hat, hat]
theorem led_weak14 {t : Turn} (hM : MsP ms) (ht : TurnP ms hs t) (h : LedRows ms hs t P) : PartW ms hs.length P := by
  refine ⟨h.row hM ht, h.nd, ?_⟩
  have nd := h.nd
  unfold List.Nodup at nd ⊢
  rw [List.pairwise_map] at nd ⊢
  refine List.Pairwise.imp_of_mem (fun {a b} ha hb z e => z ?_) nd
  rw [h.led a ha, h.led b hb] at e
  exact led_inj hM ht (h.pl a ha) (h.pl b hb) e
/-- what a turning leads goes on -/
theorem led_bars14 {t : Turn} (hM : MsP ms) (ht : TurnP ms hs t) (h : LedRows ms hs t P) : allBs ms hs P = [] := by
  have hw := led_weak14 hM ht h
  have e : (P.map fun r : Row => ((r.1, r.1) : Row)).map (·.1) = P.map (·.1) := by rw [List.map_map]; rfl
  have e2 : (P.map fun r : Row => ((r.1, r.1) : Row)).map (·.2) = P.map (·.1) := by rw [List.map_map]; rfl
  have hr0 : ∀ r ∈ P.map fun r : Row => ((r.1, r.1) : Row), RowP ms hs.length r := fun r hr => by
    obtain ⟨q, hq, rfl⟩ := List.mem_map.mp hr
    exact ⟨h.pl q hq, h.pl q hq⟩
  have h0 : PartW ms hs.length (P.map fun r : Row => ((r.1, r.1) : Row)) := ⟨hr0, by rw [e]; exact h.nd, by rw [e2]; exact h.nd⟩
  refine (goes_ledW hM (still_turn hM) ht h0 hw fun r' => ?_).mpr (same_nil14 hM hr0 (fun r hr => ?_) h0.nd1)
  · have key : ∀ q ∈ P, ledR ms (stillT ms hs.length) t (q.1, q.1) = q := fun q hq => by
      refine Prod.ext ?_ (h.led q hq).symm
      exact still_led hM (h.pl q hq)
    constructor
    · intro hr
      exact ⟨(r'.1, r'.1), List.mem_map.mpr ⟨r', hr, rfl⟩, (key r' hr).symm⟩
    · rintro ⟨r, hr, rfl⟩
      obtain ⟨q, hq, rfl⟩ := List.mem_map.mp hr
      rw [key q hq]
      exact hq
  · obtain ⟨q, hq, rfl⟩ := List.mem_map.mp hr
    rfl
theorem led_nobar14 {t : Turn} (hM : MsP ms) (ht : TurnP ms hs t) (h : LedRows ms hs t P) : NoBar ms hs P := by
  have hw := led_weak14 hM ht h
  exact noBar hM hw.row hw.nd1 hw.nd2 (led_bars14 hM ht h)
end
theorem led_none14 (ms hs : List Int) (t : Turn) : LedRows ms hs t [] := ⟨fun _ z => (nomatch z), fun _ z => (nomatch z), List.Pairwise.nil⟩
theorem way_none14 {ms hs : List Int} (hM : MsP ms) : wayN ms hs [] = D.prod (dints (likeD (dints hs))) * D.prod (dints ms) ^ triN hs.length := by
  have hl := led_none14 ms hs (stillT ms hs.length)
  have hnb := led_nobar14 hM (still_turn hM) hl
  have hb := led_bars14 hM (still_turn hM) hl
  have e : freeN hs [] 0 = List.range hs.length := List.filter_eq_self.mpr fun x _ => rfl
  have ed : dints hs = (List.range hs.length).map fun x => D.int (hs.getD x 0) := by
    refine List.ext_getElem? fun i => ?_
    rw [dints, List.getElem?_map, List.getElem?_map]
    rcases Nat.lt_or_ge i hs.length with z | z
    · rw [List.getElem?_range z, Option.map_some, List.getD_eq_getElem?_getD, List.getElem?_eq_getElem z]; rfl
    · rw [List.getElem?_eq_none z, List.getElem?_eq_none (by rw [List.length_range]; exact z)]; rfl
  rw [way_lam hnb hb, e, List.length_range]
  congr 1
  rw [ed, lam_likeD]
  refine lam_congr fun x hx y hy => ?_
  rw [sg_rel hM hnb.rows (List.mem_range.mp hx) (List.mem_range.mp hy)]
  exact ⟨fun h => congrArg D.int h.1, fun h => ⟨D.int.inj h, fun r hr => (nomatch hr)⟩⟩
def preTcn14 (C : Addr) (ds : List D) : Prop := ∃ ms hs : List Int, ds = [frD C ms hs] ∧ MsQ ms ∧ HuP hs
noncomputable def fTcn14 : List D → D
  | [.ins _ _ [.tup ms, .tup hs]] => .int (wayN (uints ms) (uints hs) [])
  | _ => .non
theorem fTcn14_is (C : Addr) (ms hs : List Int) : fTcn14 [frD C ms hs] = .int (wayN ms hs []) := by
  show D.int (wayN (uints (dints ms)) (uints (dints hs)) []) = _
  rw [uints_dints, uints_dints]
theorem triN_div14 (k : Nat) : ((k : Int) * ((k : Int) - 1)) / 2 = (triN k : Nat) := by
  have h := triN_two k
  cases k with
  | zero => rfl
  | succ k =>
    rw [Nat.add_sub_cancel] at h
    rw [show ((k + 1 : Nat) : Int) - 1 = (k : Int) by omega, ← Int.natCast_mul, ← h]
    omega
theorem triN_le14 : ∀ k, k ≤ 16 → triN k ≤ 120 := by decide
theorem pow_bd14 {t : Int} {k : Nat} (h0 : 1 ≤ t) (h1 : t ≤ 128) (hk : k ≤ 120) : 1 ≤ t ^ k ∧ (t ^ k).natAbs < 2 ^ 841 := by
  have e : (t ^ k).natAbs = t.natAbs ^ k := Int.natAbs_pow t k
  refine ⟨?_, ?_⟩
  · have : 0 < t ^ k := Int.pow_pos (by omega)
    omega
  rw [e]
  refine Nat.lt_of_le_of_lt (Nat.pow_le_pow_left (show t.natAbs ≤ 2 ^ 7 by omega) k) ?_
  rw [← Nat.pow_mul]
  exact Nat.pow_lt_pow_right (by omega) (by omega)
theorem way_bd14 {ms hs : List Int} {P : List Row} (hM : MsP ms) (h16 : hs.length ≤ 16) (h : NoBar ms hs P) (hb : allBs ms hs P = []) : 1 ≤ wayN ms hs P ∧ (wayN ms hs P).natAbs < 2 ^ 1000 := by
  have hl : (freeN hs P 0).length ≤ 16 := by
    refine Nat.le_trans (List.length_filter_le _ _) ?_
    rw [List.length_range]; exact h16
  have ht := prod8_bd hM
  obtain ⟨p1, p2⟩ := pow_bd14 (t := D.prod (dints ms)) (k := triN (freeN hs P 0).length) (by omega) (by omega) (triN_le14 _ hl)
  have hlk := prod_le8 (likeS ((freeN hs P 0).map (sgA ms hs P 0))) fun n q => by
    have := likeS_pos n q
    rw [List.length_map] at this
    omega
  rw [lam_likeS, likeS_len, List.length_map] at hlk
  have hlk2 : lamF (sgA ms hs P 0) (freeN hs P 0) ≤ 2 ^ 64 := Int.le_trans hlk.2 (by
    have : (16 : Int) ^ (freeN hs P 0).length ≤ 16 ^ 16 := by
      have := Nat.pow_le_pow_right (n := 16) (by omega) hl
      exact_mod_cast this
    exact Int.le_trans this (by decide))
  rw [way_lam h hb]
  refine ⟨?_, ?_⟩
  · have := Int.mul_pos (show 0 < lamF (sgA ms hs P 0) (freeN hs P 0) by omega) (show 0 < D.prod (dints ms) ^ triN (freeN hs P 0).length by omega)
    omega
  · rw [Int.natAbs_mul]
    refine Nat.lt_of_lt_of_le (Nat.mul_lt_mul'' (c := 2 ^ 65) (d := 2 ^ 841) (by omega) p2) ?_
    rw [← Nat.pow_add]
    exact Nat.pow_le_pow_right (by omega) (by omega)
theorem prod_le16_14 {L : List Int} (hl : L.length ≤ 16) (h : 1 ≤ D.prod (dints L) ∧ D.prod (dints L) ≤ 16 ^ L.length) : 1 ≤ D.prod (dints L) ∧ D.prod (dints L) ≤ 16 ^ 16 := by
  refine ⟨h.1, Int.le_trans h.2 ?_⟩
  have := Nat.pow_le_pow_right (n := 16) (by omega) hl
  exact_mod_cast this
/-- whether a place is among some -/
theorem spot_in14 {ms : List Int} {n : Nat} {S : List Spot} {p : Spot} (hM : MsP ms) (hn : n ≤ 16) (hS : ∀ q ∈ S, PlP ms n q.1 q.2) (hp : PlP ms n p.1 p.2) :
    ((D.pys (S.map dspot)).any fun z => PyData.eqv z (dspot p).py) = S.contains p := by
  induction S with
  | nil => rfl
  | cons q S ih =>
    rw [List.map_cons, D.pys, List.any_cons, ih fun x hx => hS x (List.mem_cons_of_mem _ hx), List.contains_cons]
    congr 1
    rw [Bool.eq_iff_iff, (((hS q List.mem_cons_self).num hM (by omega)).eqv (hp.num hM (by omega))), beq_iff_eq]
    exact ⟨fun e => (dspot_inj e).symm, fun e => by rw [e]⟩
theorem snoc_ind {α : Type} {P : List α → Prop} (h0 : P []) (h1 : ∀ L l, P L → P (L ++ [l])) (L : List α) : P L := by
  rw [← List.reverse_reverse L]
  generalize L.reverse = M
  induction M with
  | nil => exact h0
  | cons a M ih =>
    rw [List.reverse_cons]
    exact h1 _ _ ih
theorem digF_snoc (n l : Int) (L : List Int) : digF n (L ++ [l]) = digF (n / l) L ++ [n % l] := by
  rw [digF, digF, List.reverse_append, List.reverse_cons, List.reverse_nil, List.nil_append, List.singleton_append]
  show (n % l :: digR (n / l) L.reverse).reverse = _
  rw [List.reverse_cons]
theorem prodL_snoc (L : List Int) (l : Int) : D.prod (dints (L ++ [l])) = D.prod (dints L) * l := by
  rw [prodL_append]
  congr 1
  show l * 1 = l
  rw [Int.mul_one]
structure Below (G L : List Int) : Prop where
  len : G.length = L.length
  bd : ∀ (c : Nat) x a, G[c]? = some x → L[c]? = some a → 0 ≤ x ∧ x < a
theorem pos_snoc {L : List Int} {l : Int} (h : ∀ a ∈ L ++ [l], 0 < a) : (∀ a ∈ L, 0 < a) ∧ 0 < l :=
  ⟨fun a ha => h a (List.mem_append_left _ ha), h l (List.mem_append_right _ List.mem_cons_self)⟩
theorem below_snoc {G L : List Int} {l : Int} (h : Below G (L ++ [l])) : ∃ G' g, G = G' ++ [g] ∧ Below G' L ∧ 0 ≤ g ∧ g < l := by
  have hl := h.len
  rw [List.length_append, List.length_singleton] at hl
  have hne : G ≠ [] := fun e => by rw [e] at hl; simp at hl
  obtain ⟨G', g, e⟩ : ∃ G' g, G = G' ++ [g] := ⟨G.dropLast, G.getLast hne, (List.dropLast_concat_getLast hne).symm⟩
  subst e
  rw [List.length_append, List.length_singleton] at hl
  refine ⟨G', g, rfl, ⟨by omega, fun c x a h1 h2 => ?_⟩, ?_⟩
  · have c1 := (List.getElem?_eq_some_iff.mp h1).1
    have c2 := (List.getElem?_eq_some_iff.mp h2).1
    exact h.bd c x a (by rw [List.getElem?_append_left c1]; exact h1) (by rw [List.getElem?_append_left c2]; exact h2)
  · refine h.bd G'.length g l ?_ ?_
    · rw [List.getElem?_append_right (Nat.le_refl _), Nat.sub_self]; rfl
    · rw [show G'.length = L.length by omega, List.getElem?_append_right (Nat.le_refl _), Nat.sub_self]; rfl
theorem num_bd (L : List Int) : (∀ a ∈ L, 0 < a) → ∀ G, Below G L → 0 ≤ numF 0 G L ∧ numF 0 G L < D.prod (dints L) := by
  refine snoc_ind (P := fun L => (∀ a ∈ L, 0 < a) → ∀ G, Below G L → 0 ≤ numF 0 G L ∧ numF 0 G L < D.prod (dints L)) ?_ ?_ L
  · intro _ G h
    obtain rfl : G = [] := List.length_eq_zero_iff.mp h.len
    exact ⟨Int.le_refl _, by show (0 : Int) < 1; decide⟩
  · intro L l ih hp G h
    obtain ⟨p1, p2⟩ := pos_snoc hp
    obtain ⟨G', g, rfl, h', g0, g1⟩ := below_snoc h
    obtain ⟨i1, i2⟩ := ih p1 G' h'
    rw [numF_snoc _ _ _ _ _ h'.len, prodL_snoc]
    have m0 := Int.mul_nonneg i1 (show (0 : Int) ≤ l by omega)
    refine ⟨by omega, ?_⟩
    have m1 : (numF 0 G' L + 1) * l ≤ D.prod (dints L) * l := Int.mul_le_mul_of_nonneg_right (by omega) (by omega)
    rw [Int.add_mul, Int.one_mul] at m1
    omega
theorem dig_num (L : List Int) : (∀ a ∈ L, 0 < a) → ∀ G, Below G L → digF (numF 0 G L) L = G := by
  refine snoc_ind (P := fun L => (∀ a ∈ L, 0 < a) → ∀ G, Below G L → digF (numF 0 G L) L = G) ?_ ?_ L
  · intro _ G h
    obtain rfl : G = [] := List.length_eq_zero_iff.mp h.len
    rfl
  · intro L l ih hp G h
    obtain ⟨p1, p2⟩ := pos_snoc hp
    obtain ⟨G', g, rfl, h', g0, g1⟩ := below_snoc h
    rw [numF_snoc _ _ _ _ _ h'.len, digF_snoc, Int.add_comm, Int.add_mul_ediv_right _ _ (by omega), Int.ediv_eq_zero_of_lt g0 g1, Int.zero_add, ih p1 G' h', Int.add_mul_emod_self_right, Int.emod_eq_of_lt g0 g1]
/-- the first difference rises -/
def LexI (A B : List Int) : Prop := ∃ (i : Nat) (x y : Int), A[i]? = some x ∧ B[i]? = some y ∧ x < y ∧ ∀ j < i, A[j]? = B[j]?
theorem LexI.app {A B : List Int} (h : LexI A B) (C E : List Int) : LexI (A ++ C) (B ++ E) := by
  obtain ⟨i, x, y, h1, h2, h3, h4⟩ := h
  have l1 := (List.getElem?_eq_some_iff.mp h1).1
  have l2 := (List.getElem?_eq_some_iff.mp h2).1
  refine ⟨i, x, y, by rw [List.getElem?_append_left l1]; exact h1, by rw [List.getElem?_append_left l2]; exact h2, h3, fun j hj => ?_⟩
  rw [List.getElem?_append_left (by omega), List.getElem?_append_left (by omega)]
  exact h4 j hj
theorem LexI.last (A : List Int) {x y : Int} (h : x < y) : LexI (A ++ [x]) (A ++ [y]) := by
  refine ⟨A.length, x, y, ?_, ?_, h, fun j hj => ?_⟩
  · rw [List.getElem?_append_right (Nat.le_refl _), Nat.sub_self]; rfl
  · rw [List.getElem?_append_right (Nat.le_refl _), Nat.sub_self]; rfl
  · rw [List.getElem?_append_left hj, List.getElem?_append_left hj]
theorem LexI.ne {A B : List Int} (h : LexI A B) : A ≠ B := fun e => by
  obtain ⟨i, x, y, h1, h2, h3, _⟩ := h
  rw [e, h2] at h1
  cases h1
  omega
theorem dig_lex (L : List Int) : (∀ a ∈ L, 0 < a) → ∀ n n' : Int, 0 ≤ n → n < n' → n' < D.prod (dints L) → LexI (digF n L) (digF n' L) := by
  refine snoc_ind (P := fun L => (∀ a ∈ L, 0 < a) → ∀ n n' : Int, 0 ≤ n → n < n' → n' < D.prod (dints L) → LexI (digF n L) (digF n' L)) ?_ ?_ L
  · intro _ n n' h0 h1 h2
    have h2 : n' < 1 := h2
    omega
  · intro L l ih hp n n' h0 h1 h2
    obtain ⟨p1, p2⟩ := pos_snoc hp
    rw [prodL_snoc] at h2
    rw [digF_snoc, digF_snoc]
    have hle : n / l ≤ n' / l := Int.ediv_le_ediv p2 (by omega)
    by_cases e : n / l = n' / l
    · rw [e]
      refine LexI.last _ ?_
      have a1 := Int.emod_add_mul_ediv n l
      have a2 := Int.emod_add_mul_ediv n' l
      rw [e] at a1
      omega
    · exact (ih p1 (n / l) (n' / l) (Int.ediv_nonneg h0 (by omega)) (by omega) (Int.ediv_lt_of_lt_mul p2 h2)).app _ _
theorem ties8_ris (ms : List Int) : (ties8 ms).Pairwise LexI := by
  refine snoc_ind (P := fun ms => (ties8 ms).Pairwise LexI) ?_ ?_ ms
  · exact List.pairwise_singleton _ _
  · intro L l ih
    rw [ties8_snoc, tstep8, List.pairwise_flatMap]
    refine ⟨fun t _ => ?_, ih.imp fun {t u} h a ha b hb => ?_⟩
    · rw [List.pairwise_map]
      exact List.pairwise_lt_range.imp fun {x y} z => LexI.last t (by omega)
    · obtain ⟨x, _, rfl⟩ := List.mem_map.mp ha
      obtain ⟨y, _, rfl⟩ := List.mem_map.mp hb
      exact h.app _ _
theorem ties8_mem (ms : List Int) : ∀ t : List Int, t.length = ms.length → (∀ (c : Nat) m x, ms[c]? = some m → t[c]? = some x → 0 ≤ x ∧ x < m) → t ∈ ties8 ms := by
  refine snoc_ind (P := fun ms => ∀ t : List Int, t.length = ms.length → (∀ (c : Nat) m x, ms[c]? = some m → t[c]? = some x → 0 ≤ x ∧ x < m) → t ∈ ties8 ms) ?_ ?_ ms
  · intro t hl _
    obtain rfl : t = [] := List.length_eq_zero_iff.mp hl
    exact List.mem_singleton.mpr rfl
  · intro L l ih t hl h
    obtain ⟨t', g, rfl, h', g0, g1⟩ := below_snoc (G := t) (L := L) (l := l) ⟨hl, fun c x a h1 h2 => h c a x h2 h1⟩
    rw [ties8_snoc, tstep8, List.mem_flatMap]
    refine ⟨t', ih t' h'.len fun c m x h1 h2 => h'.bd c x m h2 h1, List.mem_map.mpr ⟨g.toNat, List.mem_range.mpr (by omega), ?_⟩⟩
    rw [Int.toNat_of_nonneg g0]
theorem swap_fr (ms hs : List Int) (P : List Row) : fr2 ms hs P = fr1 ms hs (P.map fun r => (r.2, r.1)) := by
  show frees ms hs (P.map (·.2)) = frees ms hs ((P.map fun r => (r.2, r.1)).map (·.1))
  rw [List.map_map]
  rfl
theorem swap_free (hs : List Int) (P : List Row) : freeN hs (P.map fun r => (r.2, r.1)) 0 = freeN hs P 1 := by
  unfold freeN
  have : toldN (P.map fun r => (r.2, r.1)) 0 = toldN P 1 := by
    unfold toldN
    rw [List.map_map]
    rfl
  rw [this]
theorem fr2_stems (ms hs : List Int) (P : List Row) : (fr2 ms hs P).map (·.1) = freeN hs P 1 := by
  rw [swap_fr, fr1_stems, swap_free]
section
variable {ms hs : List Int} {P : List Row}
theorem fr2_eq (h : NoBar ms hs P) : fr2 ms hs P = (freeN hs P 1).map fun x => (x, sgA ms hs P 1 x) := by
  rw [← fr2_stems ms hs P, List.map_map]
  refine ((List.map_congr_left fun a ha => ?_).trans (List.map_id _)).symm
  exact Prod.ext rfl (h.two a ha).symm
theorem pool0_ris (s : Sign) : (pool0 (fr2 ms hs P) s).Pairwise (· < ·) := by
  have h : ((fr2 ms hs P).map (·.1)).Pairwise (· < ·) := by rw [fr2_stems]; exact free_ris hs P 1
  exact h.sublist (List.Sublist.map _ List.filter_sublist)
theorem pool_ris {F : List (Nat × Sign)} {G : List Nat} : ∀ c s, (poolAt F G (pool0 (fr2 ms hs P)) c s).Pairwise (· < ·)
  | 0, s => pool0_ris s
  | c + 1, s => by
    show (poolDrop _ _ _ s).Pairwise _
    unfold poolDrop
    split
    · exact (pool_ris c s).sublist (List.eraseIdx_sublist _ _)
    · exact pool_ris c s
theorem pool_same {F : List (Nat × Sign)} {G G' : List Nat} {pool : Pool} {i : Nat} (h : ∀ j < i, G[j]? = G'[j]?) : ∀ c, c ≤ i → poolAt F G pool c = poolAt F G' pool c
  | 0, _ => rfl
  | c + 1, hc => by
    have e : G.getD c 0 = G'.getD c 0 := by rw [List.getD_eq_getElem?_getD, List.getD_eq_getElem?_getD, h c (by omega)]
    rw [poolAt, poolAt, pool_same h c (by omega), e]
theorem lead_len {G : List Nat} {L : Nat → Nat} (h : LeadC ms hs P G L) (h0 : ∀ s, (pool0 (fr2 ms hs P) s).length = (fr1 ms hs P).countP fun a => cB (a.2 = s)) :
    ∀ c, c ≤ (fr1 ms hs P).length → ∀ s, (poolAt (fr1 ms hs P) G (pool0 (fr2 ms hs P)) c s).length = ((fr1 ms hs P).drop c).countP fun a => cB (a.2 = s)
  | 0, _, s => h0 s
  | c + 1, hc, s => by
    have ih := lead_len h h0 c (by omega)
    have hF := List.getElem?_eq_getElem (show c < (fr1 ms hs P).length by omega)
    have hg := List.getElem?_eq_getElem (show c < G.length by rw [h.len]; omega)
    have hpk := h.pick c _ _ hF hg
    have hb := (List.getElem?_eq_some_iff.mp hpk).1
    have e1 : ((fr1 ms hs P).map (·.2)).getD c (0, []) = ((fr1 ms hs P)[c]'(by omega)).2 := by rw [List.getD_eq_getElem?_getD, List.getElem?_map, hF]; rfl
    have e2 : G.getD c 0 = G[c]'(by rw [h.len]; omega) := by rw [List.getD_eq_getElem?_getD, hg]; rfl
    show (poolDrop _ (((fr1 ms hs P).map (·.2)).getD c (0, [])) (G.getD c 0) s).length = _
    rw [e1, e2]
    have hd : (fr1 ms hs P).drop c = ((fr1 ms hs P)[c]'(by omega)) :: (fr1 ms hs P).drop (c + 1) := List.drop_eq_getElem_cons (by omega)
    have hz := ih s
    rw [hd, List.countP_cons] at hz
    unfold poolDrop
    by_cases e : s = ((fr1 ms hs P)[c]'(by omega)).2
    · rw [if_pos e]
      rw [cB_true e.symm, if_pos rfl] at hz
      rw [← e] at hb
      rw [List.length_eraseIdx, if_pos hb, hz]
      rfl
    · rw [if_neg e]
      rw [cB_false (fun z => e z.symm), if_neg Bool.false_ne_true] at hz
      exact hz
/-- what is not taken stays -/
theorem pool_keep {F : List (Nat × Sign)} {G : List Nat} {pool : Pool} {y : Nat} {s : Sign} (h0 : y ∈ pool s) : ∀ c, (∀ j < c, ∀ z, (poolAt F G pool j ((F.map (·.2)).getD j (0, [])))[G.getD j 0]? = some z → z ≠ y) → y ∈ poolAt F G pool c s
  | 0, _ => h0
  | c + 1, h => by
    have ih := pool_keep h0 c fun j hj => h j (by omega)
    show y ∈ poolDrop (poolAt F G pool c) ((F.map (·.2)).getD c (0, [])) (G.getD c 0) s
    unfold poolDrop
    split
    · rename_i e
      obtain ⟨i, hi⟩ := List.getElem?_of_mem ih
      have hl := (List.getElem?_eq_some_iff.mp hi)
      refine List.mem_eraseIdx_iff_getElem.mpr ⟨i, hl.1, fun e2 => ?_, hl.2⟩
      have := h c (by omega) y (by rw [← e, ← e2]; exact hi)
      exact this rfl
    · exact ih
/-- the digits of leads -/
theorem ex_digits {t : Turn} (hM : MsP ms) (h : NoBar ms hs P) (ht : TurnP ms hs t) (hl : ∀ r ∈ P, ledP ms t r.1 = r.2) : ∃ G, LeadC ms hs P G fun x => t.1.getD x 0 := by
  have hfr := fr1_eq h
  have told : ∀ r ∈ P, t.1.getD r.1.1 0 = r.2.1 := fun r hr => congrArg Prod.fst (hl r hr)
  have at' : ∀ x < hs.length, t.1[x]? = some (t.1.getD x 0) ∧ t.1.getD x 0 < hs.length := fun x hx => by
    obtain ⟨c, hc, hc2⟩ := ht.lead.at hx
    rw [natD_of hc]
    exact ⟨hc, hc2⟩
  -- where a free stem is led to is free, of the same sign
  have mem : ∀ x ∈ freeN hs P 0, t.1.getD x 0 ∈ pool0 (fr2 ms hs P) (sgA ms hs P 0 x) := fun x hx => by
    obtain ⟨hxl, hxf⟩ := free_mem.mp hx
    obtain ⟨a1, a2⟩ := at' x hxl
    have hy : t.1.getD x 0 ∈ freeN hs P 1 := free_mem.mpr ⟨a2, fun r hr e => by
      have e : r.2.1 = t.1.getD x 0 := e
      rw [← told r hr] at e
      have e1 := (at' r.1.1 (h.rows r hr).fst.lt).1
      rw [e] at e1
      exact hxf r hr (ht.lead.inj e1 a1)⟩
    have hrel : sgA ms hs P 0 x = sgA ms hs P 1 (t.1.getD x 0) := (sg_rel hM h.rows hxl a2).mpr ⟨(hue_led ht a1).symm, fun r hr q hq hst => by
      show lessF ms (r.1.2.getD x []) (q.1.2.getD x []) = lessF ms (r.2.2.getD (t.1.getD x 0) []) (q.2.2.getD (t.1.getD x 0) [])
      have hn1 : x ≠ r.1.1 := fun e => hxf r hr e.symm
      have hn2 : x ≠ q.1.1 := fun e => hxf q hq e.symm
      rw [← hl r hr, ← hl q hq, led_says ht (h.rows r hr).fst a1 hn1, led_says ht (h.rows q hq).fst a1 hn2, hst]
      exact (less_cancel hM (says_tie (h.rows r hr).fst hxl) (says_tie (h.rows q hq).fst hxl) (tabT_tie ht.tab (h.rows q hq).fst.lt hxl (Ne.symm hn2))).symm⟩
    rw [hrel, fr2_eq h]
    refine List.mem_map.mpr ⟨(t.1.getD x 0, sgA ms hs P 1 (t.1.getD x 0)), List.mem_filter.mpr ⟨List.mem_map.mpr ⟨_, hy, rfl⟩, cB_true rfl⟩, rfl⟩
  have key : ∀ c, c ≤ (fr1 ms hs P).length → ∃ G : List Nat, G.length = c ∧ ∀ (j : Nat) a d, (fr1 ms hs P)[j]? = some a → G[j]? = some d →
      (poolAt (fr1 ms hs P) G (pool0 (fr2 ms hs P)) j a.2)[d]? = some (t.1.getD a.1 0) := by
    intro c
    induction c with
    | zero => intro _; exact ⟨[], rfl, fun j a d _ h2 => by simp at h2⟩
    | succ c ih =>
      intro hc
      obtain ⟨G, hG, hpk⟩ := ih (by omega)
      have hF := List.getElem?_eq_getElem (show c < (fr1 ms hs P).length by omega)
      obtain ⟨a, ha⟩ : ∃ a, (fr1 ms hs P)[c]? = some a := ⟨_, hF⟩
      have hax : a.1 ∈ freeN hs P 0 ∧ a.2 = sgA ms hs P 0 a.1 := by
        have hm := List.mem_of_getElem? ha
        rw [hfr] at hm
        obtain ⟨x, hx, rfl⟩ := List.mem_map.mp hm
        exact ⟨hx, rfl⟩
      have hin : t.1.getD a.1 0 ∈ poolAt (fr1 ms hs P) G (pool0 (fr2 ms hs P)) c a.2 := by
        rw [hax.2]
        refine pool_keep (mem a.1 hax.1) c fun j hj z hz e => ?_
        have hjF := List.getElem?_eq_getElem (show j < (fr1 ms hs P).length by omega)
        obtain ⟨b, hb⟩ : ∃ b, (fr1 ms hs P)[j]? = some b := ⟨_, hjF⟩
        have hg := List.getElem?_eq_getElem (show j < G.length by omega)
        have e1 : ((fr1 ms hs P).map (·.2)).getD j (0, []) = b.2 := by rw [List.getD_eq_getElem?_getD, List.getElem?_map, hb]; rfl
        have e2 : G.getD j 0 = G[j]'(by omega) := by rw [List.getD_eq_getElem?_getD, hg]; rfl
        rw [e1, e2, hpk j b _ hb hg] at hz
        have hz := Option.some.inj hz
        rw [← hz] at e
        have hbm := List.mem_of_getElem? hb
        rw [hfr] at hbm
        obtain ⟨x, hx, rfl⟩ := List.mem_map.mp hbm
        have l1 := at' x (free_mem.mp hx).1
        have l2 := at' a.1 (free_mem.mp hax.1).1
        have e : t.1.getD x 0 = t.1.getD a.1 0 := e
        rw [e] at l1
        have hxa : x = a.1 := ht.lead.inj l1.1 l2.1
        have nd : ((fr1 ms hs P).map (·.1)).Nodup := frees_nd _ _ _
        have i1 : ((fr1 ms hs P).map (·.1))[j]? = some x := by rw [List.getElem?_map, hb]; rfl
        have i2 : ((fr1 ms hs P).map (·.1))[c]? = some x := by rw [List.getElem?_map, ha, hxa]; rfl
        have := nd_at10 nd i1 i2
        omega
      obtain ⟨d, hd⟩ := List.getElem?_of_mem hin
      have same : ∀ j ≤ c, poolAt (fr1 ms hs P) (G ++ [d]) (pool0 (fr2 ms hs P)) j = poolAt (fr1 ms hs P) G (pool0 (fr2 ms hs P)) j := fun j hj => pool_same (i := c) (fun k hk => List.getElem?_append_left (by omega)) j hj
      refine ⟨G ++ [d], by rw [List.length_append, hG]; rfl, fun j b e hb he => ?_⟩
      rcases Nat.lt_or_ge j c with z | z
      · rw [List.getElem?_append_left (by omega)] at he
        rw [same j (by omega)]
        exact hpk j b e hb he
      · rw [List.getElem?_append_right (by omega)] at he
        have hj : j = c := by
          have := (List.getElem?_eq_some_iff.mp he).1
          simp at this
          omega
        subst hj
        rw [hG, Nat.sub_self] at he
        have : d = e := by simpa using he
        subst this
        rw [ha] at hb
        cases hb
        rw [same j (by omega)]
        exact hd
  obtain ⟨G, hG, hpk⟩ := key _ (Nat.le_refl _)
  exact ⟨G, told, hpk, hG⟩
end
section
variable {ms hs : List Int} {P : List Row}
theorem idx_at15 {α : Type} [BEq α] [LawfulBEq α] {l : List α} {x : α} (h : x ∈ l) : l[l.idxOf x]? = some x := by
  have hl := List.idxOf_lt_length_of_mem h
  rw [List.getElem?_eq_getElem hl, List.getElem_idxOf]
theorem less_back {u m : List Int} (hM : MsP ms) (hu : TieP ms u) (hm : TieP ms m) : lessF ms (sumF ms u m) u = m := by
  have hs := sum_tie hM hu hm
  have hl := less_tie hM hs hu
  refine sum_cancel hM hl hm hu ?_
  rw [sum_comm hM hl hu, sum_less10 hM hu hs, sum_comm hM hm hu]
theorem pool_full (h : NoBar ms hs P) (s : Sign) : (pool0 (fr2 ms hs P) s).length = (fr1 ms hs P).countP fun a => cB (a.2 = s) := h.pool0 s
/-- each turning that goes on has a number -/
theorem num_way {t : Turn} (hM : MsP ms) (h16 : hs.length ≤ 16) (h : NoBar ms hs P) (hR : RowsP ms hs P) (ht : TurnP ms hs t) (hl : ∀ r ∈ P, ledP ms t r.1 = r.2) {G : List Nat} (hG : LeadC ms hs P G fun x => t.1.getD x 0)
    {n : Int} (hn : n = numF 0 ((G ++ (prs8 ms hs P).map fun p => (ties8 ms).idxOf (tabT t.2 p.1 p.2)).map fun (g : Nat) => (g : Int)) (lims8 ms hs P)) :
    0 ≤ n ∧ n < D.prod (dints (lims8 ms hs P)) ∧ WayC ms hs P n (fun x => t.1.getD x 0) (fun x y => tabT t.2 x y) := by
  have at' : ∀ x < hs.length, t.1[x]? = some (t.1.getD x 0) ∧ t.1.getD x 0 < hs.length := fun x hx => by
    obtain ⟨c, hc, hc2⟩ := ht.lead.at hx
    rw [natD_of hc]
    exact ⟨hc, hc2⟩
  obtain ⟨H, hH⟩ : ∃ H : List Nat, H = (prs8 ms hs P).map fun p => (ties8 ms).idxOf (tabT t.2 p.1 p.2) := ⟨_, rfl⟩
  have hpr : ∀ p ∈ prs8 ms hs P, p.1 < hs.length ∧ p.2 < p.1 := fun p hp => by
    have := twos8_mem.mp hp
    rw [fr1_stems] at this
    exact ⟨(free_mem.mp this.1).1, this.2.2⟩
  have htm : ∀ p ∈ prs8 ms hs P, tabT t.2 p.1 p.2 ∈ ties8 ms := fun p hp => by
    obtain ⟨h1, h2⟩ := hpr p hp
    have tie := tabT_tie (ms := ms) ht.tab h1 (show p.2 < hs.length by omega) (by omega)
    exact ties8_mem ms _ tie.1 fun c m x em ex => by
      obtain ⟨a, ea, a1, a2⟩ := tget tie em
      rw [ea] at ex
      cases ex
      exact ⟨a1, a2⟩
  obtain ⟨D', hD⟩ : ∃ D' : List Int, D' = (G ++ H).map fun (g : Nat) => (g : Int) := ⟨_, rfl⟩
  have hlim := lims8_bd (hs := hs) (P := P) hM h16
  have hpos : ∀ a ∈ lims8 ms hs P, 0 < a := fun a ha => by have := hlim a ha; omega
  have hHl : H.length = (prs8 ms hs P).length := by rw [hH, List.length_map]
  have hb : Below D' (lims8 ms hs P) := by
    refine ⟨by rw [hD, List.length_map, List.length_append, hG.len, hHl, lims8_len], fun c x a hx ha => ?_⟩
    rw [hD, List.getElem?_map, Option.map_eq_some_iff] at hx
    obtain ⟨g, hg, rfl⟩ := hx
    refine ⟨by omega, ?_⟩
    have hll : (likeS (sgns ms hs (P.map (·.1)))).length = (fr1 ms hs P).length := by rw [likeS_len, sgns, List.length_map]
    unfold lims8 at ha
    rcases Nat.lt_or_ge c G.length with z | z
    · rw [List.getElem?_append_left z] at hg
      rw [List.getElem?_append_left (by rw [hll, ← hG.len]; exact z)] at ha
      have hcF : c < (fr1 ms hs P).length := by rw [← hG.len]; exact z
      obtain ⟨b, hbF⟩ : ∃ b, (fr1 ms hs P)[c]? = some b := ⟨_, List.getElem?_eq_getElem hcF⟩
      have hpk := hG.pick c b g hbF hg
      have hgl := (List.getElem?_eq_some_iff.mp hpk).1
      rw [lead_len hG (pool_full h) c (by omega)] at hgl
      have hs2 : (sgns ms hs (P.map (·.1)))[c]? = some b.2 := by
        show ((fr1 ms hs P).map (·.2))[c]? = _
        rw [List.getElem?_map, hbF]; rfl
      rw [likeS_get _ c b.2 hs2] at ha
      have ha := Option.some.inj ha
      have e : ((sgns ms hs (P.map (·.1))).drop c).countP (fun a => cB (a = b.2)) = ((fr1 ms hs P).drop c).countP fun a => cB (a.2 = b.2) := by
        show (((fr1 ms hs P).map (·.2)).drop c).countP _ = _
        rw [← List.map_drop, List.countP_map]
        rfl
      rw [e] at ha
      omega
    · rw [List.getElem?_append_right z, hH, List.getElem?_map, Option.map_eq_some_iff] at hg
      obtain ⟨p, hp, rfl⟩ := hg
      rw [List.getElem?_append_right (by rw [hll, ← hG.len]; exact z), List.getElem?_replicate] at ha
      split at ha
      · cases ha
        have h1 := List.idxOf_lt_length_of_mem (htm p (List.mem_of_getElem? hp))
        have h2 := ties8_len ms fun m hm => by have := hM.2.2 m hm; omega
        omega
      · cases ha
  obtain ⟨b1, b2⟩ := num_bd _ hpos D' hb
  have hdig : digN (numF 0 D' (lims8 ms hs P)) (lims8 ms hs P) = G ++ H := by
    rw [digN, dig_num _ hpos D' hb, hD, List.map_map]
    exact (List.map_congr_left fun x _ => rfl).trans (List.map_id _)
  have hn : n = numF 0 D' (lims8 ms hs P) := by rw [hn, hD, hH]
  rw [hn]
  refine ⟨b1, b2, ?_, ?_⟩
  · rw [hdig, ← hG.len, List.take_left]
    exact hG
  · rw [hdig, ← hG.len, List.drop_left]
    refine ⟨fun r hr e he hne => ?_, fun c p d hp hd => ?_, hHl⟩
    · have hfst := (h.rows r hr).fst
      obtain ⟨a1, a2⟩ := at' e he
      rw [leads_getD he, ← hl r hr, led_says ht hfst a1 hne, less_back hM (says_tie hfst he) (tabT_tie ht.tab hfst.lt he (Ne.symm hne))]
      rcases Nat.lt_or_gt_of_ne hne with z | z
      · rw [show max r.1.1 e = r.1.1 by omega, show min r.1.1 e = e by omega]
      · rw [show max r.1.1 e = e by omega, show min r.1.1 e = r.1.1 by omega]
        exact tabT_comm _ _ _ (by omega)
    · rw [hH, List.getElem?_map, hp] at hd
      cases hd
      show (ties8 ms)[(ties8 ms).idxOf (tabT t.2 p.1 p.2)]? = _
      exact idx_at15 (htm p (List.mem_of_getElem? hp))
theorem ex_num {t : Turn} (hM : MsP ms) (h16 : hs.length ≤ 16) (h : NoBar ms hs P) (hR : RowsP ms hs P) (ht : TurnP ms hs t) (hl : ∀ r ∈ P, ledP ms t r.1 = r.2) :
    ∃ n : Int, 0 ≤ n ∧ n < D.prod (dints (lims8 ms hs P)) ∧ WayC ms hs P n (fun x => t.1.getD x 0) (fun x y => tabT t.2 x y) := by
  obtain ⟨G, hG⟩ := ex_digits hM h ht hl
  exact ⟨_, num_way hM h16 h hR ht hl hG rfl⟩
theorem way_is {t : Turn} (ht : TurnP ms hs t) : ((List.range hs.length).map (fun x => t.1.getD x 0), tabM hs.length fun x y => tabT t.2 x y) = t := by
  refine Prod.ext ?_ ?_
  · refine List.ext_getElem? fun i => ?_
    rcases Nat.lt_or_ge i hs.length with z | z
    · rw [List.getElem?_map, List.getElem?_range z, Option.map_some]
      obtain ⟨c, hc, _⟩ := ht.lead.at z
      rw [natD_of hc, hc]
    · rw [List.getElem?_eq_none (by rw [List.length_map, List.length_range]; exact z), List.getElem?_eq_none (by rw [ht.lead.len]; exact z)]
  · refine tab_ext (ms := ms) (tabM_tab10 fun x y hx hy => tabT_tie ht.tab hx (by omega) (by omega)) ht.tab fun i j hi hj => ?_
    rw [tabM_tt10 hi hj, tabT_gt hj]
/-- two free stems, in the order of a table -/
theorem twos8_ris {F : List Nat} (h : F.Pairwise (· < ·)) : (twos8 F).Pairwise fun p q => p.1 < q.1 ∨ p.1 = q.1 ∧ p.2 < q.2 := by
  rw [twos8, List.pairwise_flatMap]
  refine ⟨fun s _ => ?_, h.imp fun {s t} z a ha b hb => ?_⟩
  · rw [List.pairwise_map]
    exact (h.sublist List.filter_sublist).imp fun z => .inr ⟨rfl, z⟩
  · obtain ⟨x, _, rfl⟩ := List.mem_map.mp ha
    obtain ⟨y, _, rfl⟩ := List.mem_map.mp hb
    exact .inl z
/-- the first difference of two turnings rises -/
def TLt (n : Nat) (L L' : Nat → Nat) (M M' : Nat → Nat → List Int) : Prop :=
  (∃ x < n, L x < L' x ∧ ∀ y < x, L y = L' y) ∨
    ((∀ x < n, L x = L' x) ∧ ∃ x y, x < n ∧ y < x ∧ LexI (M x y) (M' x y) ∧ ∀ a b, a < n → b < a → (a < x ∨ a = x ∧ b < y) → M a b = M' a b)
theorem digN_get {n : Int} {A : List Int} (hA : ∀ a ∈ A, 0 < a) {c : Nat} {x : Int} (h : (digF n A)[c]? = some x) : (digN n A)[c]? = some x.toNat ∧ 0 ≤ x := by
  refine ⟨by rw [digN, List.getElem?_map, h]; rfl, digF_pos hA x (List.mem_of_getElem? h)⟩
/-- as the numbers rise, so do the ways -/
theorem way_lex (hM : MsP ms) (h16 : hs.length ≤ 16) (hR : RowsP ms hs P) {n n' : Int} {L L' : Nat → Nat} {M M' : Nat → Nat → List Int}
    (hW : WayC ms hs P n L M) (hW' : WayC ms hs P n' L' M') (h0 : 0 ≤ n) (h1 : n < n') (h2 : n' < D.prod (dints (lims8 ms hs P))) : TLt hs.length L L' M M' := by
  have hlim := lims8_bd (hs := hs) (P := P) hM h16
  have hpos : ∀ a ∈ lims8 ms hs P, 0 < a := fun a ha => by have := hlim a ha; omega
  obtain ⟨i, x, y, d1, d2, d3, d4⟩ := dig_lex _ hpos n n' h0 h1 h2
  obtain ⟨e1, p1⟩ := digN_get hpos d1
  obtain ⟨e2, p2⟩ := digN_get hpos d2
  have e4 : ∀ j < i, (digN n (lims8 ms hs P))[j]? = (digN n' (lims8 ms hs P))[j]? := fun j hj => by
    rw [digN, digN, List.getElem?_map, List.getElem?_map, d4 j hj]
  have hF : ((fr1 ms hs P).map (·.1)).Pairwise (· < ·) := by rw [fr1_stems]; exact free_ris hs P 0
  obtain ⟨k, hk⟩ : ∃ k, k = (fr1 ms hs P).length := ⟨_, rfl⟩
  -- told stems, and free ones up to some number, go the same way
  have same : ∀ c, c ≤ i → ∀ j < c, ∀ a, (fr1 ms hs P)[j]? = some a → L a.1 = L' a.1 := fun c hc j hj a ha => by
    have hjk := (List.getElem?_eq_some_iff.mp ha).1
    have t1 : ∀ m < i, ((digN n (lims8 ms hs P)).take (fr1 ms hs P).length)[m]? = ((digN n' (lims8 ms hs P)).take (fr1 ms hs P).length)[m]? := fun m hm => by
      rw [List.getElem?_take, List.getElem?_take, e4 m hm]
    obtain ⟨g, hg⟩ : ∃ g, ((digN n (lims8 ms hs P)).take (fr1 ms hs P).length)[j]? = some g := ⟨_, List.getElem?_eq_getElem (by rw [hW.lead.len]; exact hjk)⟩
    have q1 := hW.lead.pick j a g ha hg
    have q2 := hW'.lead.pick j a g ha (by rw [← t1 j (by omega)]; exact hg)
    rw [pool_same t1 j (by omega)] at q1
    rw [q1] at q2
    exact Option.some.inj q2
  have told : ∀ r ∈ P, L r.1.1 = L' r.1.1 := fun r hr => (hW.lead.told r hr).trans (hW'.lead.told r hr).symm
  rcases Nat.lt_or_ge i (fr1 ms hs P).length with z | z
  · obtain ⟨a, ha⟩ : ∃ a, (fr1 ms hs P)[i]? = some a := ⟨_, List.getElem?_eq_getElem z⟩
    have t1 : ∀ m < i, ((digN n (lims8 ms hs P)).take (fr1 ms hs P).length)[m]? = ((digN n' (lims8 ms hs P)).take (fr1 ms hs P).length)[m]? := fun m hm => by
      rw [List.getElem?_take, List.getElem?_take, e4 m hm]
    have q1 := hW.lead.pick i a x.toNat ha (by rw [List.getElem?_take, if_pos z]; exact e1)
    have q2 := hW'.lead.pick i a y.toNat ha (by rw [List.getElem?_take, if_pos z]; exact e2)
    rw [pool_same t1 i (Nat.le_refl _)] at q1
    have hr := pool_ris (ms := ms) (hs := hs) (P := P) (F := fr1 ms hs P) (G := (digN n' (lims8 ms hs P)).take (fr1 ms hs P).length) i a.2
    obtain ⟨l1, g1⟩ := List.getElem?_eq_some_iff.mp q1
    obtain ⟨l2, g2⟩ := List.getElem?_eq_some_iff.mp q2
    have hlt := List.pairwise_iff_getElem.mp hr x.toNat y.toNat l1 l2 (by omega)
    rw [g1, g2] at hlt
    have ham := List.mem_of_getElem? ha
    refine .inl ⟨a.1, (free_mem8 ham).1, hlt, fun b hb => ?_⟩
    have hbl : b < hs.length := by have := (free_mem8 ham).1; omega
    rcases told_or_free (ms := ms) (P := P) hbl with ⟨_, _, r, hr, rfl⟩ | hf
    · exact told r (List.mem_of_getElem? hr)
    · obtain ⟨j, hj⟩ := List.getElem?_of_mem hf
      have hjl := (List.getElem?_eq_some_iff.mp hj).1
      rw [List.length_map] at hjl
      have hai : ((fr1 ms hs P).map (·.1))[i]? = some a.1 := by rw [List.getElem?_map, ha]; rfl
      have hji : j < i := Decidable.byContradiction fun hn => by
        rcases Nat.lt_or_ge i j with q | q
        · obtain ⟨m1, n1⟩ := List.getElem?_eq_some_iff.mp hai
          obtain ⟨m2, n2⟩ := List.getElem?_eq_some_iff.mp hj
          have := List.pairwise_iff_getElem.mp hF i j m1 m2 q
          rw [n1, n2] at this
          omega
        · have : j = i := by omega
          subst this
          rw [hai] at hj
          have := Option.some.inj hj
          omega
      obtain ⟨c, hc⟩ : ∃ c, (fr1 ms hs P)[j]? = some c := ⟨_, List.getElem?_eq_getElem hjl⟩
      have hcb : c.1 = b := by
        rw [List.getElem?_map, hc] at hj
        exact Option.some.inj hj
      rw [← hcb]
      exact same i (Nat.le_refl _) j hji c hc
  · have allL : ∀ b < hs.length, L b = L' b := fun b hb => by
      rcases told_or_free (ms := ms) (P := P) hb with ⟨_, _, r, hr, rfl⟩ | hf
      · exact told r (List.mem_of_getElem? hr)
      · obtain ⟨c, hc, hcb⟩ := List.mem_map.mp hf
        obtain ⟨j, hj⟩ := List.getElem?_of_mem hc
        have hjl := (List.getElem?_eq_some_iff.mp hj).1
        rw [← hcb]
        exact same i (Nat.le_refl _) j (by omega) c hj
    have hil := (List.getElem?_eq_some_iff.mp e1).1
    rw [digN_len, lims8_len] at hil
    obtain ⟨p, hp⟩ : ∃ p, (prs8 ms hs P)[i - (fr1 ms hs P).length]? = some p := ⟨_, List.getElem?_eq_getElem (by omega)⟩
    have m1 := hW.move.free _ p x.toNat hp (by rw [List.getElem?_drop, show (fr1 ms hs P).length + (i - (fr1 ms hs P).length) = i by omega]; exact e1)
    have m2 := hW'.move.free _ p y.toNat hp (by rw [List.getElem?_drop, show (fr1 ms hs P).length + (i - (fr1 ms hs P).length) = i by omega]; exact e2)
    obtain ⟨l1, g1⟩ := List.getElem?_eq_some_iff.mp m1
    obtain ⟨l2, g2⟩ := List.getElem?_eq_some_iff.mp m2
    have hlt := List.pairwise_iff_getElem.mp (ties8_ris ms) x.toNat y.toNat l1 l2 (by omega)
    rw [g1, g2] at hlt
    have hpm := twos8_mem.mp (List.mem_of_getElem? hp)
    rw [fr1_stems] at hpm
    have hpl := (free_mem.mp hpm.1).1
    refine .inr ⟨allL, p.1, p.2, hpl, hpm.2.2, hlt, fun a b ha hb hab => ?_⟩
    rcases mvS_all (ms := ms) hR ha hb with hq | ⟨i', hi', r, hr, e, he, hne, hxy⟩
    · obtain ⟨j, hj⟩ := List.getElem?_of_mem hq
      have hjl := (List.getElem?_eq_some_iff.mp hj).1
      have hji : j < i - (fr1 ms hs P).length := Decidable.byContradiction fun hn => by
        have hpw := twos8_ris hF
        obtain ⟨k1, n1⟩ := List.getElem?_eq_some_iff.mp hp
        obtain ⟨k2, n2⟩ := List.getElem?_eq_some_iff.mp hj
        rcases Nat.lt_or_ge (i - (fr1 ms hs P).length) j with q | q
        · have := List.pairwise_iff_getElem.mp hpw _ j k1 k2 q
          have n1' : (twos8 ((fr1 ms hs P).map (·.1)))[i - (fr1 ms hs P).length] = p := n1
          have n2' : (twos8 ((fr1 ms hs P).map (·.1)))[j] = (a, b) := n2
          rw [n1', n2'] at this
          have this : p.1 < a ∨ p.1 = a ∧ p.2 < b := this
          omega
        · have : j = i - (fr1 ms hs P).length := by omega
          subst this
          rw [hp] at hj
          have := Option.some.inj hj
          have ea : p.1 = a := congrArg Prod.fst this
          have eb : p.2 = b := congrArg Prod.snd this
          omega
      obtain ⟨g, hg⟩ : ∃ g, ((digN n (lims8 ms hs P)).drop (fr1 ms hs P).length)[j]? = some g := ⟨_, List.getElem?_eq_getElem (by rw [hW.move.len]; exact hjl)⟩
      have q1 := hW.move.free j (a, b) g hj hg
      have q2 := hW'.move.free j (a, b) g hj (by
        rw [List.getElem?_drop] at hg ⊢
        rw [← e4 _ (by omega)]
        exact hg)
      rw [q1] at q2
      exact Option.some.inj q2
    · have hrm := List.mem_of_getElem? hr
      have ea : a = max r.1.1 e := congrArg Prod.fst hxy
      have eb : b = min r.1.1 e := congrArg Prod.snd hxy
      have q1 := hW.move.row r hrm e he hne
      have q2 := hW'.move.row r hrm e he hne
      rw [leads_getD he] at q1 q2
      rw [ea, eb, q1, q2, allL e he]
end
section
variable {ms hs : List Int} {P : List Row}
theorem way_uniq (hR : RowsP ms hs P) {n : Int} {L L' : Nat → Nat} {M M' : Nat → Nat → List Int} (hW : WayC ms hs P n L M) (hW' : WayC ms hs P n L' M') :
    ((List.range hs.length).map L, tabM hs.length M) = ((List.range hs.length).map L', tabM hs.length M') := by
  have eL : ∀ x < hs.length, L x = L' x := fun x hx => hW.lead.uniq hW'.lead hx
  refine Prod.ext (List.map_congr_left fun x hx => eL x (List.mem_range.mp hx)) ?_
  show tabM hs.length M = tabM hs.length M'
  refine List.map_congr_left fun x hx => List.map_congr_left fun y hy => ?_
  have lx := List.mem_range.mp hx
  have ly := List.mem_range.mp hy
  rcases mvS_all (ms := ms) hR lx ly with hq | ⟨i', hi', r, hr, e, he, hne, hxy⟩
  · obtain ⟨j, hj⟩ := List.getElem?_of_mem hq
    have hjl := (List.getElem?_eq_some_iff.mp hj).1
    obtain ⟨g, hg⟩ : ∃ g, ((digN n (lims8 ms hs P)).drop (fr1 ms hs P).length)[j]? = some g := ⟨_, List.getElem?_eq_getElem (by rw [hW.move.len]; exact hjl)⟩
    have q1 := hW.move.free j (x, y) g hj hg
    have q2 := hW'.move.free j (x, y) g hj hg
    rw [q1] at q2
    exact Option.some.inj q2
  · have hrm := List.mem_of_getElem? hr
    have ea : x = max r.1.1 e := congrArg Prod.fst hxy
    have eb : y = min r.1.1 e := congrArg Prod.snd hxy
    have q1 := hW.move.row r hrm e he hne
    have q2 := hW'.move.row r hrm e he hne
    rw [leads_getD he] at q1 q2
    rw [ea, eb, q1, q2, eL e he]
theorem TLt.ne {n : Nat} {L L' : Nat → Nat} {M M' : Nat → Nat → List Int} (h : TLt n L L' M M') : ((List.range n).map L, tabM n M) ≠ ((List.range n).map L', tabM n M') := fun e => by
  have e1 : (List.range n).map L = (List.range n).map L' := congrArg Prod.fst e
  have e2 : tabM n M = tabM n M' := congrArg Prod.snd e
  rcases h with ⟨x, hx, hlt, _⟩ | ⟨_, x, y, hx, hy, hlt, _⟩
  · have := congrArg (fun l => l.getD x 0) e1
    have this : ((List.range n).map L).getD x 0 = ((List.range n).map L').getD x 0 := this
    rw [leads_getD hx, leads_getD hx] at this
    omega
  · have := congrArg (fun t => tt t x y) e2
    have this : tt (tabM n M) x y = tt (tabM n M') x y := this
    rw [tabM_tt10 hx hy, tabM_tt10 hx hy] at this
    exact hlt.ne this
theorem nodup_len15 {α : Type} : ∀ (L M : List α), L.Nodup → (∀ x ∈ L, x ∈ M) → L.length ≤ M.length
  | [], _, _, _ => Nat.zero_le _
  | x :: L, M, hn, hs => by
    classical
    rw [List.nodup_cons] at hn
    have h1 := hs x List.mem_cons_self
    have := nodup_len15 L (M.erase x) hn.2 fun y hy => (List.mem_erase_of_ne (fun (e : y = x) => hn.1 (e ▸ hy))).mpr (hs y (List.mem_cons_of_mem _ hy))
    rw [List.length_erase_of_mem h1] at this
    have := List.length_pos_of_mem h1
    rw [List.length_cons]
    omega
/-- all ways, by their numbers -/
theorem ex_ways (hM : MsP ms) (h16 : hs.length ≤ 16) (h : NoBar ms hs P) (hb : allBs ms hs P = []) (hR : RowsP ms hs P) : ∃ f : Nat → Turn,
    (∀ k : Nat, ∃ L M, WayC ms hs P k L M ∧ f k = ((List.range hs.length).map L, tabM hs.length M)) ∧
    (∀ k : Nat, TurnP ms hs (f k) ∧ ∀ r ∈ P, ledP ms (f k) r.1 = r.2) ∧ (∀ t, TurnP ms hs t → (∀ r ∈ P, ledP ms t r.1 = r.2) → ∃ k : Nat, (k : Int) < wayN ms hs P ∧ f k = t) ∧
    ∀ j k : Nat, j < k → (k : Int) < wayN ms hs P → f j ≠ f k := by
  have hw : wayN ms hs P = D.prod (dints (lims8 ms hs P)) := by rw [wayN, hb, if_pos (by rfl)]
  have ex : ∀ k : Nat, ∃ t, ∃ L M, WayC ms hs P k L M ∧ t = ((List.range hs.length).map L, tabM hs.length M) := fun k => by
    obtain ⟨L, M, hW⟩ := h.ex_way hM h16 hR k
    exact ⟨_, L, M, hW, rfl⟩
  refine ⟨fun k => (ex k).choose, fun k => (ex k).choose_spec, fun k => ?_, fun t ht hl => ?_, fun j k hjk hk e => ?_⟩
  · obtain ⟨L, M, hW, e⟩ := (ex k).choose_spec
    show TurnP ms hs (ex k).choose ∧ ∀ r ∈ P, ledP ms (ex k).choose r.1 = r.2
    rw [e]
    exact h.turn hM hR hW
  · obtain ⟨n, n0, n1, hW⟩ := ex_num hM h16 h hR ht hl
    refine ⟨n.toNat, by rw [hw]; omega, ?_⟩
    obtain ⟨L, M, hW2, e⟩ := (ex n.toNat).choose_spec
    show (ex n.toNat).choose = t
    rw [e]
    rw [Int.toNat_of_nonneg n0] at hW2
    rw [way_uniq hR hW2 hW, way_is ht]
  · obtain ⟨L, M, hW, e1⟩ := (ex j).choose_spec
    obtain ⟨L', M', hW', e2⟩ := (ex k).choose_spec
    have e : (ex j).choose = (ex k).choose := e
    rw [e1, e2] at e
    exact (way_lex hM h16 hR hW hW' (by omega) (by omega) (by rw [← hw]; exact hk)).ne e
/-- how many turnings go on from a part -/
theorem ways_many (hM : MsP ms) (h16 : hs.length ≤ 16) (h : NoBar ms hs P) (hb : allBs ms hs P = []) (hR : RowsP ms hs P) {E : List Turn} (hE : E.Nodup)
    (hm : ∀ t, t ∈ E ↔ TurnP ms hs t ∧ ∀ r ∈ P, ledP ms t r.1 = r.2) : (E.length : Int) = wayN ms hs P := by
  obtain ⟨f, _, f1, f2, f3⟩ := ex_ways hM h16 h hb hR
  have hw0 := (way_bd14 hM h16 h hb).1
  have a1 := nodup_len15 E ((List.range (wayN ms hs P).toNat).map f) hE fun t ht => by
    obtain ⟨q1, q2⟩ := (hm t).mp ht
    obtain ⟨k, hk, e⟩ := f2 t q1 q2
    exact List.mem_map.mpr ⟨k, List.mem_range.mpr (by omega), e⟩
  have a2 := nodup_len15 ((List.range (wayN ms hs P).toNat).map f) E (by
    unfold List.Nodup
    rw [List.pairwise_map]
    refine List.Pairwise.imp_of_mem (fun {a b} ha hb z => f3 a b z ?_) List.pairwise_lt_range
    have := List.mem_range.mp hb
    omega) fun t ht => by
      obtain ⟨k, _, rfl⟩ := List.mem_map.mp ht
      exact (hm _).mpr (f1 k)
  rw [List.length_map, List.length_range] at a1 a2
  omega
end

abbrev dord (L : List Nat) : D := .tup (dnats L)
def ordN92 (hs : List Int) (h : Int) (L : List Nat) : List Nat := (List.range hs.length).filter fun x => decide (hs.getD x 0 = h) && !L.contains x
def ordS92 (hs : List Int) (A : List (List Nat)) (h : Int) : List (List Nat) := A.flatMap fun L => (ordN92 hs h L).map fun x => L ++ [x]
def ords92 (hs : List Int) (c : Nat) : List (List Nat) := (hs.take c).foldl (ordS92 hs) [[]]
theorem ords92_step {hs : List Int} {c : Nat} {h : Int} (e : hs[c]? = some h) : ords92 hs (c + 1) = ordS92 hs (ords92 hs c) h := by
  rw [ords92, List.take_add_one, e, List.foldl_append]
  rfl
theorem ordN92_mem {hs : List Int} {h : Int} {L : List Nat} {x : Nat} : x ∈ ordN92 hs h L ↔ x < hs.length ∧ hs.getD x 0 = h ∧ x ∉ L := by
  rw [ordN92, List.mem_filter, List.mem_range, Bool.and_eq_true, decide_eq_true_eq, Bool.not_eq_true', List.contains_eq_mem, decide_eq_false_iff_not]
structure OrdP (hs : List Int) (c : Nat) (L : List Nat) : Prop where
  len : L.length = c
  nd : L.Nodup
  hue : ∀ (x y : Nat), L[x]? = some y → y < hs.length ∧ hs.getD y 0 = hs.getD x 0
theorem ords92_mem {hs : List Int} : ∀ c, c ≤ hs.length → ∀ L, L ∈ ords92 hs c ↔ OrdP hs c L := by
  intro c
  induction c with
  | zero =>
    intro _ L
    rw [ords92, List.take_zero, List.foldl_nil, List.mem_singleton]
    exact ⟨fun e => e ▸ ⟨rfl, .nil, fun x y h => by simp at h⟩, fun h => List.length_eq_zero_iff.mp h.len⟩
  | succ c ih =>
    intro hc L
    have ih := ih (by omega)
    have e : hs[c]? = some (hs.getD c 0) := by
      rw [List.getD_eq_getElem?_getD, List.getElem?_eq_getElem (show c < hs.length by omega)]; rfl
    rw [ords92_step e, ordS92, List.mem_flatMap]
    constructor
    · rintro ⟨L', h1, h2⟩
      obtain ⟨x, hx, rfl⟩ := List.mem_map.mp h2
      have o := (ih L').mp h1
      obtain ⟨x1, x2, x3⟩ := ordN92_mem.mp hx
      refine ⟨by rw [List.length_append, o.len]; rfl, ?_, fun i y hi => ?_⟩
      · exact List.nodup_append.mpr ⟨o.nd, List.pairwise_singleton _ _, fun a ha b hb z => x3 (by rw [List.mem_singleton.mp hb] at z; exact z ▸ ha)⟩
      · rcases Nat.lt_or_ge i L'.length with z | z
        · rw [List.getElem?_append_left z] at hi
          exact o.hue i y hi
        · rw [List.getElem?_append_right z] at hi
          have hz : i = c := by
            have := (List.getElem?_eq_some_iff.mp hi).1
            simp at this
            have := o.len
            omega
          subst hz
          rw [o.len, Nat.sub_self] at hi
          have : x = y := by simpa using hi
          subst this
          exact ⟨x1, x2⟩
    · intro o
      have hl := o.len
      have hL : L = L.take c ++ [L.getD c 0] := by
        have := List.take_append_getElem (l := L) (i := c) (by omega)
        rw [List.getD_eq_getElem?_getD, List.getElem?_eq_getElem (show c < L.length by omega)]
        show L = L.take c ++ [L[c]]
        rw [this, List.take_of_length_le (by omega)]
      have hce : L[c]? = some (L.getD c 0) := by
        rw [List.getD_eq_getElem?_getD, List.getElem?_eq_getElem (show c < L.length by omega)]; rfl
      have nd := o.nd
      rw [hL] at nd
      obtain ⟨n1, n2, n3⟩ := List.nodup_append.mp nd
      obtain ⟨q1, q2⟩ := o.hue c _ hce
      refine ⟨L.take c, (ih _).mpr ⟨by rw [List.length_take]; omega, n1, fun x y h => ?_⟩, List.mem_map.mpr ⟨L.getD c 0, ordN92_mem.mpr ⟨q1, q2, fun z => n3 _ z _ (List.mem_singleton.mpr rfl) rfl⟩, hL.symm⟩⟩
      rw [List.getElem?_take] at h
      split at h
      · exact o.hue x y h
      · cases h
theorem ord_lead {hs : List Int} {L : List Nat} : OrdP hs hs.length L ↔ LeadP hs L := by
  constructor
  · intro o
    refine ⟨o.len, o.nd, fun x y h => ?_⟩
    obtain ⟨h1, h2⟩ := o.hue x y h
    have hx : x < hs.length := by rw [← o.len]; exact (List.getElem?_eq_some_iff.mp h).1
    refine ⟨h1, ?_⟩
    rw [List.getD_eq_getElem?_getD, List.getD_eq_getElem?_getD, List.getElem?_eq_getElem h1, List.getElem?_eq_getElem hx] at h2
    rw [List.getElem?_eq_getElem h1, List.getElem?_eq_getElem hx]
    exact congrArg some h2
  · intro o
    refine ⟨o.len, o.nd, fun x y h => ⟨(o.hue x y h).1, ?_⟩⟩
    rw [List.getD_eq_getElem?_getD, List.getD_eq_getElem?_getD, (o.hue x y h).2]
theorem ords92_lead {hs : List Int} {L : List Nat} : L ∈ ords92 hs hs.length ↔ LeadP hs L := (ords92_mem _ (Nat.le_refl _) L).trans ord_lead
theorem nodup_flat92 {α β : Type} {f : α → List β} {L : List α} (h1 : ∀ a ∈ L, (f a).Nodup) (h2 : L.Pairwise fun a b => ∀ x, x ∈ f a → x ∈ f b → False) : (L.flatMap f).Nodup := by
  induction L with
  | nil => exact .nil
  | cons a L ih =>
    obtain ⟨q1, q2⟩ := List.pairwise_cons.mp h2
    rw [List.flatMap_cons]
    refine List.nodup_append.mpr ⟨h1 a List.mem_cons_self, ih (fun b hb => h1 b (List.mem_cons_of_mem _ hb)) q2, fun x hx y hy e => ?_⟩
    obtain ⟨b, hb, hy⟩ := List.mem_flatMap.mp hy
    exact q1 b hb x hx (e ▸ hy)
theorem ords92_nd {hs : List Int} : ∀ c, c ≤ hs.length → (ords92 hs c).Nodup := by
  intro c
  induction c with
  | zero => intro _; rw [ords92, List.take_zero]; exact List.pairwise_singleton _ _
  | succ c ih =>
    intro hc
    have e : hs[c]? = some (hs.getD c 0) := by
      rw [List.getD_eq_getElem?_getD, List.getElem?_eq_getElem (show c < hs.length by omega)]; rfl
    rw [ords92_step e, ordS92]
    refine nodup_flat92 (fun L _ => ?_) ?_
    · unfold List.Nodup
      rw [List.pairwise_map]
      refine List.Pairwise.imp (R := (· < ·)) (fun {a b} z h => ?_) (List.Pairwise.sublist List.filter_sublist List.pairwise_lt_range)
      have := List.append_cancel_left h
      simp at this
      omega
    · refine List.Pairwise.imp_of_mem (fun {a b} ha hb z => ?_) (ih (by omega))
      intro L h1 h2
      obtain ⟨x, _, rfl⟩ := List.mem_map.mp h1
      obtain ⟨y, _, e2⟩ := List.mem_map.mp h2
      have la := ((ords92_mem c (by omega) a).mp ha).len
      have lb := ((ords92_mem c (by omega) b).mp hb).len
      exact z (List.append_inj_left e2 (by rw [la, lb])).symm
def fallN (n : Nat) : Nat → Nat
  | 0 => 1
  | c + 1 => fallN n c * (n - c)
theorem ords92_len {hs : List Int} : ∀ c, c ≤ hs.length → (ords92 hs c).length ≤ fallN hs.length c := by
  intro c
  induction c with
  | zero => intro _; exact Nat.le_refl _
  | succ c ih =>
    intro hc
    have e : hs[c]? = some (hs.getD c 0) := by
      rw [List.getD_eq_getElem?_getD, List.getElem?_eq_getElem (show c < hs.length by omega)]; rfl
    rw [ords92_step e, ordS92]
    have key : ∀ L ∈ ords92 hs c, ((ordN92 hs (hs.getD c 0) L).map fun x => L ++ [x]).length ≤ hs.length - c := fun L hL => by
      have o := (ords92_mem c (by omega) L).mp hL
      rw [List.length_map]
      have := nodup_len (L ++ ordN92 hs (hs.getD c 0) L) (List.range hs.length) (List.nodup_append.mpr ⟨o.nd, List.Pairwise.sublist List.filter_sublist List.nodup_range, fun a ha b hb z => (ordN92_mem.mp hb).2.2 (z ▸ ha)⟩) fun x hx => by
        rcases List.mem_append.mp hx with z | z
        · obtain ⟨i, hi⟩ := List.getElem?_of_mem z
          exact List.mem_range.mpr (o.hue i x hi).1
        · exact List.mem_range.mpr (ordN92_mem.mp z).1
      rw [List.length_append, List.length_range, o.len] at this
      omega
    have fl : ∀ {A : List (List Nat)}, (∀ L ∈ A, ((ordN92 hs (hs.getD c 0) L).map fun x => L ++ [x]).length ≤ hs.length - c) → (A.flatMap fun L => (ordN92 hs (hs.getD c 0) L).map fun x => L ++ [x]).length ≤ A.length * (hs.length - c) := by
      intro A
      induction A with
      | nil => intro _; simp
      | cons L A ih =>
        intro h
        rw [List.flatMap_cons, List.length_append, List.length_cons, Nat.succ_mul]
        have := h L List.mem_cons_self
        have := ih fun x hx => h x (List.mem_cons_of_mem _ hx)
        omega
    exact Nat.le_trans (fl key) (Nat.mul_le_mul_right _ (ih (by omega)))
theorem fallN_le : ∀ n < 6, ∀ c < 6, fallN n c ≤ 120 := by decide
theorem ords92_few {hs : List Int} (h : hs.length ≤ 5) {c : Nat} (hc : c ≤ hs.length) : (ords92 hs c).length ≤ 120 :=
  Nat.le_trans (ords92_len c hc) (fallN_le _ (by omega) _ (by omega))
def preOs92 (ds : List D) : Prop := ∃ hs : List Int, ds = [.tup (dints hs)] ∧ HuP hs ∧ hs.length ≤ 5
def fOs92 : List D → D
  | [.tup hs] => .lst ((ords92 (uints hs) (uints hs).length).map dord)
  | _ => .non
theorem fOs92_is (hs : List Int) : fOs92 [.tup (dints hs)] = .lst ((ords92 hs hs.length).map dord) := by
  show D.lst ((ords92 (uints (dints hs)) (uints (dints hs)).length).map dord) = _
  rw [uints_dints]
theorem flat_len92 {α β : Type} {f : α → List β} {b : Nat} : ∀ {L : List α}, (∀ a ∈ L, (f a).length ≤ b) → (L.flatMap f).length ≤ L.length * b
  | [], _ => by simp
  | a :: L, h => by
    rw [List.flatMap_cons, List.length_append, List.length_cons, Nat.succ_mul]
    have := h a List.mem_cons_self
    have := flat_len92 (L := L) fun x hx => h x (List.mem_cons_of_mem _ hx)
    omega

def cfg35 : List (List Int × List Int) := [([2], [0, 0]), ([2], [0, 0, 0]), ([3], [0, 0, 0]), ([2], [1, 0, 1]), ([2], [0, 0, 5, 5]), ([5], [0, 9]), ([2, 2], [3, 3]), ([4], [1, 1, 0]), ([2], [0, 3, 0, 0]), ([5, 3, 2], [4, 4]), ([2, 2], [2, 1, 2])]
def appS35 {α : Type} (K : List α) (S : List (List α)) : List (List α) := S.flatMap fun s => K.map fun k => s ++ [k]
def rows35 (ms : List Int) : Nat → List (List (List Int))
  | 0 => [[]]
  | c + 1 => appS35 (ties8 ms) (rows35 ms c)
def tabs35 (ms : List Int) : Nat → List (List (List (List Int)))
  | 0 => [[]]
  | c + 1 => appS35 (rows35 ms c) (tabs35 ms c)
theorem appS_mem {α : Type} {K : List α} {S : List (List α)} {x : List α} : x ∈ appS35 K S ↔ ∃ s ∈ S, ∃ k ∈ K, s ++ [k] = x := by
  rw [appS35, List.mem_flatMap]
  exact ⟨fun ⟨s, h1, h2⟩ => ⟨s, h1, by obtain ⟨k, hk, e⟩ := List.mem_map.mp h2; exact ⟨k, hk, e⟩⟩, fun ⟨s, h1, k, hk, e⟩ => ⟨s, h1, List.mem_map.mpr ⟨k, hk, e⟩⟩⟩
theorem appS_nd {α : Type} {K : List α} {S : List (List α)} (hK : K.Nodup) (hS : S.Nodup) : (appS35 K S).Nodup := by
  refine nodup_flat92 (fun s _ => ?_) ?_
  · unfold List.Nodup
    rw [List.pairwise_map]
    refine List.Pairwise.imp (fun {a b} z h => z ?_) hK
    have := List.append_cancel_left h
    simpa using this
  · refine List.Pairwise.imp (fun {a b} z x h1 h2 => ?_) hS
    obtain ⟨k, _, rfl⟩ := List.mem_map.mp h1
    obtain ⟨j, _, e⟩ := List.mem_map.mp h2
    exact z (List.append_inj' e rfl).1.symm
theorem appS_take {α : Type} {K : List α} {S : List (List α)} {c : Nat} {s : List α} (h : S[c]? = some s) : appS35 K (S.take (c + 1)) = appS35 K (S.take c) ++ K.map fun k => s ++ [k] := by
  rw [appS35, appS35, List.take_add_one, h, List.flatMap_append, Option.toList_some, List.flatMap_singleton]
theorem ties8_iff {ms t : List Int} : t ∈ ties8 ms ↔ TieP ms t := ⟨fun h => ties8_tie ms t h, fun h => ties8_mem ms t h.1 h.2⟩
theorem ties8_nd (ms : List Int) : (ties8 ms).Nodup := (ties8_ris ms).imp fun h => h.ne
theorem rows35_mem {ms : List Int} : ∀ {c : Nat} {l : List (List Int)}, l ∈ rows35 ms c ↔ l.length = c ∧ ∀ t ∈ l, TieP ms t
  | 0, l => by
    rw [rows35, List.mem_singleton]
    exact ⟨fun e => e ▸ ⟨rfl, fun _ h => (nomatch h)⟩, fun h => List.length_eq_zero_iff.mp h.1⟩
  | c + 1, l => by
    rw [rows35, appS_mem]
    constructor
    · rintro ⟨s, hs, k, hk, rfl⟩
      obtain ⟨h1, h2⟩ := rows35_mem.mp hs
      refine ⟨by rw [List.length_append, h1]; rfl, fun t ht => ?_⟩
      rcases List.mem_append.mp ht with z | z
      · exact h2 t z
      · rw [List.mem_singleton.mp z]; exact ties8_iff.mp hk
    · rintro ⟨h1, h2⟩
      have hne : l ≠ [] := fun e => by rw [e] at h1; cases h1
      refine ⟨l.dropLast, rows35_mem.mpr ⟨by rw [List.length_dropLast]; omega, fun t ht => h2 t (List.dropLast_subset _ ht)⟩, l.getLast hne, ties8_iff.mpr (h2 _ (List.getLast_mem hne)), List.dropLast_concat_getLast hne⟩
theorem rows35_nd (ms : List Int) : ∀ c, (rows35 ms c).Nodup
  | 0 => List.pairwise_singleton _ _
  | c + 1 => appS_nd (ties8_nd ms) (rows35_nd ms c)
theorem tabs35_mem {ms : List Int} : ∀ {c : Nat} {g : List (List (List Int))}, g ∈ tabs35 ms c ↔ TabP ms c g
  | 0, g => by
    rw [tabs35, List.mem_singleton]
    exact ⟨fun e => e ▸ ⟨rfl, fun i r h => by simp at h⟩, fun h => List.length_eq_zero_iff.mp h.1⟩
  | c + 1, g => by
    rw [tabs35, appS_mem]
    constructor
    · rintro ⟨s, hs, k, hk, rfl⟩
      obtain ⟨h1, h2⟩ := tabs35_mem.mp hs
      refine ⟨by rw [List.length_append, h1]; rfl, fun i r hi => ?_⟩
      rcases Nat.lt_or_ge i s.length with z | z
      · rw [List.getElem?_append_left z] at hi
        exact h2 i r hi
      · rw [List.getElem?_append_right z] at hi
        have hz : i = c := by
          have := (List.getElem?_eq_some_iff.mp hi).1
          simp at this
          omega
        subst hz
        rw [h1, Nat.sub_self] at hi
        have : k = r := by simpa using hi
        exact this ▸ rows35_mem.mp hk
    · rintro ⟨h1, h2⟩
      have hne : g ≠ [] := fun e => by rw [e] at h1; cases h1
      refine ⟨g.dropLast, tabs35_mem.mpr ⟨by rw [List.length_dropLast]; omega, fun i r hi => h2 i r ?_⟩, g.getLast hne, rows35_mem.mpr (h2 c _ ?_), List.dropLast_concat_getLast hne⟩
      · rw [List.getElem?_dropLast] at hi
        split at hi
        · exact hi
        · cases hi
      · rw [List.getLast_eq_getElem, List.getElem?_eq_getElem (by omega)]
        congr 1
        congr 1
        omega
theorem tabs35_nd (ms : List Int) : ∀ c, (tabs35 ms c).Nodup
  | 0 => List.pairwise_singleton _ _
  | c + 1 => appS_nd (rows35_nd ms c) (tabs35_nd ms c)
def turns35 (ms hs : List Int) : List Turn := (ords92 hs hs.length).flatMap fun L => (tabs35 ms hs.length).map fun g => (L, g)
theorem turns35_mem {ms hs : List Int} {t : Turn} : t ∈ turns35 ms hs ↔ TurnP ms hs t := by
  rw [turns35, List.mem_flatMap]
  constructor
  · rintro ⟨L, h1, h2⟩
    obtain ⟨g, hg, rfl⟩ := List.mem_map.mp h2
    exact ⟨ords92_lead.mp h1, tabs35_mem.mp hg⟩
  · intro h
    exact ⟨t.1, ords92_lead.mpr h.lead, List.mem_map.mpr ⟨t.2, tabs35_mem.mpr h.tab, rfl⟩⟩
theorem turns35_nd (ms hs : List Int) : (turns35 ms hs).Nodup := by
  refine nodup_flat92 (fun s _ => ?_) ?_
  · unfold List.Nodup
    rw [List.pairwise_map]
    exact List.Pairwise.imp (fun {a b} z h => z (Prod.mk.inj h).2) (tabs35_nd ms hs.length)
  · refine List.Pairwise.imp (fun {a b} z x h1 h2 => ?_) (ords92_nd hs.length (Nat.le_refl _))
    obtain ⟨k, _, rfl⟩ := List.mem_map.mp h1
    obtain ⟨j, _, e⟩ := List.mem_map.mp h2
    exact z (Prod.mk.inj e).1.symm
theorem cfg35_prod : ∀ q ∈ cfg35, D.prod (dints q.1) ≤ 30 := by decide
theorem cfg35_hue : ∀ q ∈ cfg35, msB q.1 = true ∧ 2 ≤ q.2.length ∧ q.2.length ≤ 4 ∧ (q.2.all fun n => decide (0 ≤ n) && decide (n ≤ 9)) = true := by decide
theorem cfg35_ties : ∀ q ∈ cfg35, (ties8 q.1).length ≤ 30 := by decide
theorem cfg35_ties2 : ∀ q ∈ cfg35, ∀ c < 4, (ties8 (q.1.take c)).length ≤ 30 := by decide
theorem cfg35_rows : ∀ q ∈ cfg35, ∀ c < q.2.length, (rows35 q.1 c).length ≤ 30 := by decide +kernel
theorem cfg35_tabs : ∀ q ∈ cfg35, ∀ c < q.2.length + 1, (tabs35 q.1 c).length ≤ 64 := by decide +kernel
theorem cfg35_turns : ∀ q ∈ cfg35, (turns35 q.1 q.2).length ≤ 400 ∧ 1 ≤ (turns35 q.1 q.2).length := by decide +kernel
theorem cfg35_ords : ∀ q ∈ cfg35, ∀ c < q.2.length + 1, (ords92 q.2 c).length ≤ 24 := by decide +kernel
structure Cfg35 (ms hs : List Int) : Prop where
  mem : (ms, hs) ∈ cfg35
  M : MsP ms
  H : HuP hs
  n4 : hs.length ≤ 4
  Q : MsQ ms
theorem Cfg35.of {ms hs : List Int} (h : (ms, hs) ∈ cfg35) : Cfg35 ms hs := by
  obtain ⟨h1, h2, h3, h4⟩ := cfg35_hue _ h
  refine ⟨h, MsP.of h1, ⟨h2, by have : hs.length ≤ 4 := h3; omega, fun n hn => ?_⟩, h3, MsP.of h1, cfg35_prod _ h⟩
  have := List.all_eq_true.mp h4 n hn
  simpa using this
def preKs35 (ds : List D) : Prop := ∃ ms hs : List Int, ds = [.tup (dints ms)] ∧ (ms, hs) ∈ cfg35
def fKs35 : List D → D
  | [.tup xs] => .lst (drows8 (ties8 (uints xs)))
  | _ => .non
theorem fKs35_is (ms : List Int) : fKs35 [.tup (dints ms)] = .lst (drows8 (ties8 ms)) := by
  show D.lst (drows8 (ties8 (uints (dints ms)))) = _
  rw [uints_dints]
def preGs35 (ds : List D) : Prop := ∃ (ms hs : List Int), ds = [.tup (dints ms), .int hs.length] ∧ (ms, hs) ∈ cfg35
def fGs35 : List D → D
  | [.tup xs, .int n] => .lst ((tabs35 (uints xs) n.toNat).map dtab)
  | _ => .non
theorem fGs35_is (ms : List Int) (n : Nat) : fGs35 [.tup (dints ms), .int n] = .lst ((tabs35 ms n).map dtab) := by
  show D.lst ((tabs35 (uints (dints ms)) ((n : Int)).toNat).map dtab) = _
  rw [uints_dints, Int.toNat_natCast]
def preTs35 (ds : List D) : Prop := ∃ (ms hs : List Int), ds = [.tup (dints ms), .tup (dints hs)] ∧ (ms, hs) ∈ cfg35
def fTs35 : List D → D
  | [.tup xs, .tup hs] => .lst ((turns35 (uints xs) (uints hs)).map dturn)
  | _ => .non
theorem fTs35_is (ms hs : List Int) : fTs35 [.tup (dints ms), .tup (dints hs)] = .lst ((turns35 ms hs).map dturn) := by
  show D.lst ((turns35 (uints (dints ms)) (uints (dints hs))).map dturn) = _
  rw [uints_dints, uints_dints]
/-- a measure and hues, drawn -/
def preLi35 (m : Nat) (ds : List D) : Prop := m < 2000000 ∧ ds = []
def psiLi35 (ds : List D) (m m' : Nat) (d : D) : Prop := m' ≤ m + 10 ∧ ∃ q ∈ cfg35, d = .tup [.tup (dints q.1), .tup (dints q.2)]
section
variable {ms hs : List Int} {P : List Row}
end

def FreeS (hs : List Int) (S : List Spot) (x : Nat) : Prop := x < hs.length ∧ ∀ p ∈ S, p.1 ≠ x
def AlkS (ms hs : List Int) (S : List Spot) (x y : Nat) : Prop := hs.getD x 0 = hs.getD y 0 ∧ ∀ p ∈ S, ∀ q ∈ S, p.1 = q.1 →
  lessF ms (p.2.getD x []) (q.2.getD x []) = lessF ms (p.2.getD y []) (q.2.getD y [])
structure LeastT (ms hs : List Int) (S : List Spot) (t : Turn) : Prop where
  turn : TurnP ms hs t
  ris : ∀ x y, FreeS hs S x → FreeS hs S y → AlkS ms hs S x y → x < y → t.1.getD x 0 < t.1.getD y 0
  zero : ∀ x y, FreeS hs S x → FreeS hs S y → x ≠ y → tabT t.2 x y = zt ms
section
variable {ms hs : List Int} {S : List Spot}
theorem FreeS.congr {S' : List Spot} (h : ∀ p, p ∈ S ↔ p ∈ S') {x : Nat} : FreeS hs S x ↔ FreeS hs S' x :=
  ⟨fun z => ⟨z.1, fun p hp => z.2 p ((h p).mpr hp)⟩, fun z => ⟨z.1, fun p hp => z.2 p ((h p).mp hp)⟩⟩
theorem AlkS.congr {S' : List Spot} (h : ∀ p, p ∈ S ↔ p ∈ S') {x y : Nat} : AlkS ms hs S x y ↔ AlkS ms hs S' x y :=
  ⟨fun z => ⟨z.1, fun p hp q hq => z.2 p ((h p).mpr hp) q ((h q).mpr hq)⟩, fun z => ⟨z.1, fun p hp q hq => z.2 p ((h p).mp hp) q ((h q).mp hq)⟩⟩
theorem AlkS.symm {x y : Nat} (h : AlkS ms hs S x y) : AlkS ms hs S y x := ⟨h.1.symm, fun p hp q hq e => (h.2 p hp q hq e).symm⟩
theorem LeastT.congr {S' : List Spot} {t : Turn} (h : ∀ p, p ∈ S ↔ p ∈ S') (l : LeastT ms hs S t) : LeastT ms hs S' t :=
  ⟨l.turn, fun x y fx fy a => l.ris x y ((FreeS.congr h).mpr fx) ((FreeS.congr h).mpr fy) ((AlkS.congr h).mpr a), fun x y fx fy => l.zero x y ((FreeS.congr h).mpr fx) ((FreeS.congr h).mpr fy)⟩
end
def preCd26 (ds : List D) : Prop := ∃ a b : Nat, ds = [.int a, .int b]
def fCd26 : List D → D
  | [.int a, .int b] => .int (Nat.gcd a.toNat b.toNat)
  | _ => .non
theorem fCd26_is (a b : Nat) : fCd26 [.int a, .int b] = .int (Nat.gcd a b) := by
  show D.int (Nat.gcd (a : Int).toNat (b : Int).toNat) = _
  rw [Int.toNat_natCast, Int.toNat_natCast]
def lcmL (L : List Nat) : Nat := L.foldl Nat.lcm 1
theorem lcmL_snoc (L : List Nat) (x : Nat) : lcmL (L ++ [x]) = Nat.lcm (lcmL L) x := by
  unfold lcmL
  rw [List.foldl_append]
  rfl
def preCm26 (ds : List D) : Prop := ∃ L : List Nat, ds = [.lst (dnats L)] ∧ ∀ x ∈ L, 0 < x ∧ x ∣ 720720
def fCm26 : List D → D
  | [.lst xs] => .int (lcmL (unats xs))
  | _ => .non
theorem fCm26_is (L : List Nat) : fCm26 [.lst (dnats L)] = .int (lcmL L) := by
  show D.int (lcmL (unats (dnats L))) = _
  rw [unats_dnats]
theorem lcmL_dvd (L : List Nat) {n : Nat} (h : ∀ x ∈ L, x ∣ n) : lcmL L ∣ n := by
  refine snoc_ind (P := fun L => (∀ x ∈ L, x ∣ n) → lcmL L ∣ n) ?_ ?_ L h
  · intro _; exact Nat.one_dvd n
  · intro L l ih h
    rw [lcmL_snoc]
    exact Nat.lcm_dvd (ih fun x hx => h x (List.mem_append_left _ hx)) (h l (List.mem_append_right _ List.mem_cons_self))
theorem dvd_lcmL (L : List Nat) : ∀ x ∈ L, x ∣ lcmL L := by
  refine snoc_ind (P := fun L => ∀ x ∈ L, x ∣ lcmL L) ?_ ?_ L
  · intro x h; cases h
  · intro L l ih x hx
    rw [lcmL_snoc]
    rcases List.mem_append.mp hx with z | z
    · exact Nat.dvd_trans (ih x z) (Nat.dvd_lcm_left _ _)
    · rw [List.mem_singleton.mp z]; exact Nat.dvd_lcm_right _ _
theorem lcmL_pos (L : List Nat) (h : ∀ x ∈ L, 0 < x) : 0 < lcmL L := by
  refine snoc_ind (P := fun L => (∀ x ∈ L, 0 < x) → 0 < lcmL L) ?_ ?_ L h
  · intro _; decide
  · intro L l ih h
    rw [lcmL_snoc]
    exact Nat.lcm_pos (ih fun x hx => h x (List.mem_append_left _ hx)) (h l (List.mem_append_right _ List.mem_cons_self))
theorem lcm_mul26 (m n : Nat) : m * (n / Nat.gcd m n) = Nat.lcm m n := by
  unfold Nat.lcm
  rw [Nat.mul_div_assoc _ (Nat.gcd_dvd_right m n)]
theorem find_least26 {p : Nat → Bool} : ∀ {n k : Nat}, k < n → p k = true → ∃ m, (List.range n).find? p = some m ∧ m ≤ k ∧ p m = true ∧ ∀ j < m, p j = false := fun {n k} hk hp => by
  cases e : (List.range n).find? p with
  | none => exact absurd hp (by rw [List.find?_eq_none] at e; exact e k (List.mem_range.mpr hk))
  | some m =>
    obtain ⟨h1, h2, h3⟩ := List.find?_range_eq_some.mp e
    refine ⟨m, rfl, ?_, h1, fun j hj => ?_⟩
    · rcases Nat.lt_or_ge k m with z | z
      · have := h3 k z
        rw [hp] at this
        cases this
      · exact z
    · have := h3 j hj
      rwa [Bool.not_eq_true'] at this
/-- where the leads lead in k steps -/
def it26 (ls : List Nat) : Nat → Nat → Nat
  | 0, x => x
  | k + 1, x => ls.getD (it26 ls k x) 0
structure Inj26 (ls : List Nat) : Prop where
  lt : ∀ x < ls.length, ls.getD x 0 < ls.length
  inj : ∀ x < ls.length, ∀ y < ls.length, ls.getD x 0 = ls.getD y 0 → x = y
section
variable {ls : List Nat}
theorem Inj26.it_lt (h : Inj26 ls) {x : Nat} (hx : x < ls.length) : ∀ k, it26 ls k x < ls.length
  | 0 => hx
  | k + 1 => h.lt _ (h.it_lt hx k)
theorem Inj26.cancel (h : Inj26 ls) {x : Nat} (hx : x < ls.length) : ∀ (i d : Nat), it26 ls i x = it26 ls (i + d) x → it26 ls d x = x
  | 0, d, e => by rw [Nat.zero_add] at e; exact e.symm
  | i + 1, d, e => by
    rw [show i + 1 + d = i + d + 1 by omega] at e
    exact h.cancel hx i d (h.inj _ (h.it_lt hx i) _ (h.it_lt hx (i + d)) e)
theorem Inj26.back (h : Inj26 ls) {x : Nat} (hx : x < ls.length) : ∃ k, k < ls.length ∧ it26 ls (k + 1) x = x := Classical.byContradiction fun hn => by
  have hn : ∀ k, k < ls.length → it26 ls (k + 1) x ≠ x := fun k hk e => hn ⟨k, hk, e⟩
  have nd : ((List.range (ls.length + 1)).map fun k => it26 ls k x).Nodup := by
    unfold List.Nodup
    rw [List.pairwise_map]
    refine List.Pairwise.imp_of_mem (fun {i j} hi hj hlt e => ?_) List.pairwise_lt_range
    have hj := List.mem_range.mp hj
    have := h.cancel hx i (j - i) (by rw [show i + (j - i) = j by omega]; exact e)
    exact hn (j - i - 1) (by omega) (by rw [show j - i - 1 + 1 = j - i by omega]; exact this)
  have := List.Nodup.length_le_of_subset nd (l₂ := List.range ls.length) fun y hy => by
    obtain ⟨k, _, rfl⟩ := List.mem_map.mp hy
    exact List.mem_range.mpr (h.it_lt hx k)
  rw [List.length_map, List.length_range, List.length_range] at this
  omega
/-- the length of a ring, less one -/
def per26 (ls : List Nat) (x : Nat) : Nat := ((List.range ls.length).find? fun k => it26 ls (k + 1) x == x).getD 0
theorem Inj26.per (h : Inj26 ls) {x : Nat} (hx : x < ls.length) : per26 ls x < ls.length ∧ it26 ls (per26 ls x + 1) x = x ∧ ∀ k < per26 ls x, it26 ls (k + 1) x ≠ x := by
  obtain ⟨k, hk, e⟩ := h.back hx
  obtain ⟨m, h1, h2, h3, h4⟩ := find_least26 (p := fun k => it26 ls (k + 1) x == x) hk (by rw [e]; exact beq_self_eq_true x)
  have em : per26 ls x = m := by unfold per26; rw [h1]; rfl
  rw [em]
  refine ⟨by omega, by simpa using h3, fun j hj => by simpa using h4 j hj⟩
end
def ringN26 (ls : List Nat) (x : Nat) : List Nat := (List.range (per26 ls x + 1)).map fun k => it26 ls k x
def preSr26 (ds : List D) : Prop := ∃ (ls : List Nat) (x : Nat), ds = [.tup (dnats ls), .int x] ∧ Inj26 ls ∧ ls.length ≤ 16 ∧ x < ls.length
def fSr26 : List D → D
  | [.tup ls, .int x] => .lst (dnats (ringN26 (unats ls) x.toNat))
  | _ => .non
theorem fSr26_is (ls : List Nat) (x : Nat) : fSr26 [.tup (dnats ls), .int x] = .lst (dnats (ringN26 ls x)) := by
  show D.lst (dnats (ringN26 (unats (dnats ls)) (x : Int).toNat)) = _
  rw [unats_dnats, Int.toNat_natCast]
def powT26 (ms : List Int) (n : Nat) (t : Turn) : Nat → Turn
  | 0 => stillT ms n
  | k + 1 => behT ms (powT26 ms n t k) t
section
variable {ms hs : List Int} {t : Turn}
theorem pow_turn26 (hM : MsP ms) (ht : TurnP ms hs t) : ∀ k, TurnP ms hs (powT26 ms hs.length t k)
  | 0 => still_turn hM
  | k + 1 => beh_turn hM (pow_turn26 hM ht k) ht
theorem pow_add26 (hM : MsP ms) (ht : TurnP ms hs t) (a : Nat) : ∀ b, behT ms (powT26 ms hs.length t a) (powT26 ms hs.length t b) = powT26 ms hs.length t (a + b)
  | 0 => LeadP.still_beh hM (pow_turn26 hM ht a)
  | b + 1 => by
    show behT ms (powT26 ms hs.length t a) (behT ms (powT26 ms hs.length t b) t) = behT ms (powT26 ms hs.length t (a + b)) t
    rw [← beh_assoc hM (pow_turn26 hM ht a) (pow_turn26 hM ht b) ht, pow_add26 hM ht a b]
theorem pow_one26 (hM : MsP ms) (ht : TurnP ms hs t) : powT26 ms hs.length t 1 = t := still_beh2 hM ht
end
def preDt26 (C : Addr) (ds : List D) : Prop := ∃ (ms hs : List Int) (t : Turn) (k : Nat), ds = [frD C ms hs, dturn t, .int k] ∧ MsP ms ∧ hs.length ≤ 16 ∧ TurnP ms hs t
def fDt26 : List D → D
  | [.ins _ _ [.tup ms, .tup hs], t, .int k] => dturn (powT26 (uints ms) hs.length (uturn t) k.toNat)
  | _ => .non
theorem fDt26_is (C : Addr) (ms hs : List Int) (t : Turn) (k : Nat) : fDt26 [frD C ms hs, dturn t, .int k] = dturn (powT26 ms hs.length t k) := by
  show dturn (powT26 (uints (dints ms)) (dints hs).length (uturn (dturn t)) (k : Int).toNat) = _
  rw [uints_dints, uturn_dturn, dints_length, Int.toNat_natCast]
theorem ordFrom_spec26 {p : Nat → Bool} : ∀ {f k k0 : Nat}, k ≤ k0 → k0 ≤ k + f → p k0 = true → p (ordFrom p f k) = true ∧ ∀ j, k ≤ j → j < ordFrom p f k → p j = false
  | 0, k, k0, h1, h2, h3 => by
    obtain rfl : k = k0 := by omega
    rw [ordFrom]
    exact ⟨h3, fun j a b => by omega⟩
  | f + 1, k, k0, h1, h2, h3 => by
    rw [ordFrom]
    by_cases e : p k = true
    · rw [if_pos e]
      exact ⟨e, fun j a b => by omega⟩
    · rw [if_neg e]
      have hne : k ≠ k0 := fun z => e (by rw [z]; exact h3)
      obtain ⟨g1, g2⟩ := ordFrom_spec26 (f := f) (k := k + 1) (k0 := k0) (by omega) (by omega) h3
      refine ⟨g1, fun j a b => ?_⟩
      by_cases z : j = k
      · rw [z]; simpa using e
      · exact g2 j (by omega) b
theorem zeroAt_iff26 {ms t : List Int} (h : TieP ms t) (k : Nat) : zeroAt ms t k = true ↔ ∀ (c : Nat) m x, ms[c]? = some m → t[c]? = some x → m ∣ x * k := by
  unfold zeroAt
  rw [beq_iff_eq]
  constructor
  · intro e c m x h1 h2
    have := times_get (n := (k : Int)) h1 h2
    rw [e, List.getElem?_replicate] at this
    split at this
    · exact Int.dvd_of_emod_eq_zero (Option.some.inj this).symm
    · cases this
  · intro e
    refine ext_of_get (by rw [times_len h]; simp) fun c x y h1 h2 => ?_
    obtain ⟨m, em⟩ := get_of_len (Nat.le_of_eq (times_len h _)) h1
    obtain ⟨z, ez⟩ := get_of_len (Nat.le_of_eq h.1.symm) em
    rw [times_get em ez] at h1
    rw [List.getElem?_replicate] at h2
    split at h2
    · cases h2
      cases h1
      exact Int.emod_eq_zero_of_dvd (e c m z em ez)
    · cases h2
theorem ord_spec26 {ms t : List Int} (hM : MsP ms) (h : TieP ms t) : zeroAt ms t (ordF ms t) = true ∧ ∀ j, 1 ≤ j → j < ordF ms t → zeroAt ms t j = false :=
  ordFrom_spec26 (by omega) (by omega) (zero60 hM h)
theorem ord_dvd26 {ms t : List Int} (hM : MsP ms) (h : TieP ms t) {n : Nat} (hn : zeroAt ms t n = true) : ordF ms t ∣ n := by
  obtain ⟨h1, h2⟩ := ord_spec26 hM h
  have hb := ord_bd ms t
  have hlt := Nat.mod_lt n (show 0 < ordF ms t by omega)
  refine Nat.dvd_of_mod_eq_zero (Classical.byContradiction fun z => ?_)
  have := h2 (n % ordF ms t) (by omega) hlt
  rw [show zeroAt ms t (n % ordF ms t) = true from (zeroAt_iff26 h _).mpr fun c m x e1 e2 => ?_] at this
  · cases this
  · have a1 := (zeroAt_iff26 h _).mp h1 c m x e1 e2
    have a2 := (zeroAt_iff26 h _).mp hn c m x e1 e2
    have e3 := Nat.div_add_mod n (ordF ms t)
    have e4 : x * ((n % ordF ms t : Nat) : Int) = x * (n : Int) - x * (ordF ms t : Int) * ((n / ordF ms t : Nat) : Int) := by
      have : (n : Int) = (ordF ms t : Int) * ((n / ordF ms t : Nat) : Int) + ((n % ordF ms t : Nat) : Int) := by exact_mod_cast e3.symm
      rw [this, Int.mul_add, Int.mul_assoc]
      omega
    rw [e4]
    exact Int.dvd_sub a2 (Int.dvd_trans a1 (Int.dvd_mul_right _ _))
theorem small_dvd26 : ∀ n, n ≤ 16 → 0 < n → n ∣ 720720 := by decide
theorem ord_dvd60 {ms t : List Int} (hM : MsP ms) (h : TieP ms t) : 0 < ordF ms t ∧ ordF ms t ∣ 720720 :=
  ⟨(ord_bd ms t).1, Nat.dvd_trans (ord_dvd26 hM h (zero60 hM h)) (by decide)⟩
def turns26 (t : Turn) : Nat := lcmL (t.1.map fun x => per26 t.1 x + 1)
def ord26 (ms : List Int) (n : Nat) (t : Turn) : Nat := turns26 t * lcmL ((powT26 ms n t (turns26 t)).2.flatMap fun r => r.map (ordF ms))
theorem lead_inj26 {hs : List Int} {ls : List Nat} (h : LeadP hs ls) : Inj26 ls := by
  have hl := h.len
  have gd : ∀ x < ls.length, ls[x]? = some (ls.getD x 0) := fun x hx => by
    rw [List.getD_eq_getElem?_getD, List.getElem?_eq_getElem hx]; rfl
  refine ⟨fun x hx => ?_, fun x hx y hy e => ?_⟩
  · have := (h.hue x _ (gd x hx)).1
    omega
  · exact h.inj (gd x hx) (by rw [e]; exact gd y hy)
def preTo26 (C : Addr) (ds : List D) : Prop := ∃ (ms hs : List Int) (t : Turn), ds = [frD C ms hs, dturn t] ∧ MsP ms ∧ hs.length ≤ 16 ∧ TurnP ms hs t
def fTo26 : List D → D
  | [.ins _ _ [.tup ms, .tup hs], t] => .int (ord26 (uints ms) hs.length (uturn t))
  | _ => .non
theorem fTo26_is (C : Addr) (ms hs : List Int) (t : Turn) : fTo26 [frD C ms hs, dturn t] = .int (ord26 ms hs.length t) := by
  show D.int (ord26 (uints (dints ms)) (dints hs).length (uturn (dturn t))) = _
  rw [uints_dints, uturn_dturn, dints_length]
theorem t_yes26 {K : PySem.W.Frag} {l : Option Addr} {ρ : Ro} {m : Nat} {Φ : Nat → Bool → Prop} (h : Φ m true) : TvC K l tYes ρ m Φ := by
  intro Z B H σ Q ok k
  exact k true m B H ok Fr.refl h
theorem ord_pos26 {ms hs : List Int} {t : Turn} (hM : MsP ms) (ht : TurnP ms hs t) : 0 < ord26 ms hs.length t := by
  refine Nat.mul_pos (lcmL_pos _ fun x hx => ?_) (lcmL_pos _ fun x hx => ?_)
  · obtain ⟨y, _, rfl⟩ := List.mem_map.mp hx
    exact Nat.succ_pos _
  · obtain ⟨r, _, hx⟩ := List.mem_flatMap.mp hx
    obtain ⟨b, _, rfl⟩ := List.mem_map.mp hx
    exact (ord_bd ms b).1
def preTt26 (C : Addr) (ds : List D) : Prop := ∃ (ms hs : List Int) (t : Turn) (k : Int), ds = [frD C ms hs, dturn t, .int k] ∧ MsP ms ∧ hs.length ≤ 16 ∧ TurnP ms hs t
def fTt26 : List D → D
  | [.ins _ _ [.tup ms, .tup hs], t, .int k] => dturn (powT26 (uints ms) hs.length (uturn t) (k % (ord26 (uints ms) hs.length (uturn t) : Nat)).toNat)
  | _ => .non
theorem fTt26_is (C : Addr) (ms hs : List Int) (t : Turn) (k : Int) : fTt26 [frD C ms hs, dturn t, .int k] = dturn (powT26 ms hs.length t (k % (ord26 ms hs.length t : Nat)).toNat) := by
  show dturn (powT26 (uints (dints ms)) (dints hs).length (uturn (dturn t)) (k % (ord26 (uints (dints ms)) (dints hs).length (uturn (dturn t)) : Nat)).toNat) = _
  rw [uints_dints, uturn_dturn, dints_length]
theorem it_add26 (ls : List Nat) (a x : Nat) : ∀ b, it26 ls (a + b) x = it26 ls b (it26 ls a x)
  | 0 => rfl
  | b + 1 => by
    show ls.getD (it26 ls (a + b) x) 0 = ls.getD (it26 ls b (it26 ls a x)) 0
    rw [it_add26 ls a x b]
theorem it_mul26 {ls : List Nat} {p x : Nat} (h : it26 ls p x = x) : ∀ j, it26 ls (p * j) x = x
  | 0 => rfl
  | j + 1 => by rw [Nat.mul_succ, it_add26, it_mul26 h j, h]
theorem it_dvd26 {ls : List Nat} (hi : Inj26 ls) {x k : Nat} (hx : x < ls.length) : it26 ls k x = x ↔ per26 ls x + 1 ∣ k := by
  obtain ⟨p1, p2, p3⟩ := hi.per hx
  constructor
  · intro h
    refine Nat.dvd_of_mod_eq_zero (Classical.byContradiction fun z => ?_)
    have e := Nat.div_add_mod k (per26 ls x + 1)
    have hlt := Nat.mod_lt k (show 0 < per26 ls x + 1 by omega)
    rw [← e, it_add26, it_mul26 p2] at h
    exact p3 (k % (per26 ls x + 1) - 1) (by omega) (by rw [show k % (per26 ls x + 1) - 1 + 1 = k % (per26 ls x + 1) by omega]; exact h)
  · rintro ⟨j, rfl⟩
    exact it_mul26 p2 j
section
variable {ms hs : List Int} {t u : Turn}
theorem pow_lead26 (hM : MsP ms) (ht : TurnP ms hs t) : ∀ k {x : Nat}, x < hs.length → (powT26 ms hs.length t k).1[x]? = some (it26 t.1 k x)
  | 0, x, hx => by
    show (List.range hs.length)[x]? = _
    rw [List.getElem?_range hx]
    rfl
  | k + 1, x, hx => by
    have hl := ht.lead.len
    have hlt := (lead_inj26 ht.lead).it_lt (x := x) (by omega) k
    refine beh_get (pow_lead26 hM ht k hx) ?_
    show t.1[it26 t.1 k x]? = some (t.1.getD (it26 t.1 k x) 0)
    rw [List.getD_eq_getElem?_getD, List.getElem?_eq_getElem hlt]
    rfl
theorem pow_mul26 (hM : MsP ms) (ht : TurnP ms hs t) (a : Nat) : ∀ j, powT26 ms hs.length (powT26 ms hs.length t a) j = powT26 ms hs.length t (a * j)
  | 0 => rfl
  | j + 1 => by
    show behT ms (powT26 ms hs.length (powT26 ms hs.length t a) j) (powT26 ms hs.length t a) = _
    rw [pow_mul26 hM ht a j, pow_add26 hM ht, Nat.mul_succ]
theorem times_succ26 {τ : List Int} (hM : MsP ms) (h : TieP ms τ) (j : Nat) : sumF ms (timesF ms τ j) τ = timesF ms τ ((j + 1 : Nat) : Int) := by
  have h1 := times_tie hM h (j : Int)
  have hl : (sumF ms (timesF ms τ j) τ).length = ms.length := (sum_tie hM h1 h).1
  refine ext_of_get (by rw [hl, times_len h]) fun c x y e1 e2 => ?_
  obtain ⟨m, em⟩ := get_of_len (Nat.le_of_eq hl) e1
  obtain ⟨z, ez⟩ := get_of_len (Nat.le_of_eq h.1.symm) em
  rw [sum_get em (times_get em ez) ez] at e1
  rw [times_get em ez] at e2
  rw [← Option.some.inj e1, ← Option.some.inj e2, Int.emod_add_emod, Int.natCast_succ, Int.mul_add, Int.mul_one]
theorem times_zero26 {τ : List Int} (h : TieP ms τ) : timesF ms τ ((0 : Nat) : Int) = List.replicate ms.length 0 := by
  refine ext_of_get (by rw [times_len h]; simp) fun c x y e1 e2 => ?_
  obtain ⟨m, em⟩ := get_of_len (Nat.le_of_eq (times_len h _)) e1
  obtain ⟨z, ez⟩ := get_of_len (Nat.le_of_eq h.1.symm) em
  rw [times_get em ez] at e1
  rw [List.getElem?_replicate] at e2
  split at e2
  · cases e2
    cases e1
    simp
  · cases e2
theorem still_tt26 {i j : Nat} (hi : i < hs.length) (hj : j < i) : tabT (stillT ms hs.length).2 i j = List.replicate ms.length 0 := by
  rw [tabT_gt hj]
  exact const_tt hi hj
theorem pow_tab26 (hM : MsP ms) (hu : TurnP ms hs u) (hid : ∀ x < hs.length, u.1[x]? = some x) {i j : Nat} (hi : i < hs.length) (hj : j < i) :
    ∀ k, tabT (powT26 ms hs.length u k).2 i j = timesF ms (tabT u.2 i j) (k : Nat)
  | 0 => by
    rw [times_zero26 (tabT_tie hu.tab hi (by omega) (by omega))]
    exact still_tt26 hi hj
  | k + 1 => by
    have hit : ∀ x < hs.length, ∀ k, it26 u.1 k x = x := fun x hx k => by
      induction k with
      | zero => rfl
      | succ k ih =>
        show u.1.getD (it26 u.1 k x) 0 = x
        rw [ih, List.getD_eq_getElem?_getD, hid x hx]
        rfl
    show tabT (behT ms (powT26 ms hs.length u k) u).2 i j = _
    rw [beh_tab (pow_turn26 hM hu k) (pow_lead26 hM hu k hi) (pow_lead26 hM hu k (show j < hs.length by omega)) (by omega), hit i hi, hit j (by omega), pow_tab26 hM hu hid hi hj k,
      times_succ26 hM (tabT_tie hu.tab hi (by omega) (by omega))]
/-- the turning is still again just where its order parts the number -/
theorem pow_still26 (hM : MsP ms) (ht : TurnP ms hs t) (k : Nat) : powT26 ms hs.length t k = stillT ms hs.length ↔ ord26 ms hs.length t ∣ k := by
  have hl := ht.lead.len
  have hi := lead_inj26 ht.lead
  obtain ⟨u, eu⟩ : ∃ u, u = powT26 ms hs.length t (turns26 t) := ⟨_, rfl⟩
  have hu : TurnP ms hs u := by rw [eu]; exact pow_turn26 hM ht _
  have hback : ∀ x < hs.length, it26 t.1 (turns26 t) x = x := fun x hx => by
    refine (it_dvd26 hi (by omega)).mpr (dvd_lcmL _ _ (List.mem_map.mpr ⟨x, (by obtain ⟨b, _, hb⟩ := ht.lead.surj hx; exact List.mem_of_getElem? hb), rfl⟩))
  have hid : ∀ x < hs.length, u.1[x]? = some x := fun x hx => by
    rw [eu, pow_lead26 hM ht _ hx, hback x hx]
  have tie : ∀ {i j : Nat}, i < hs.length → j < i → TieP ms (tabT u.2 i j) := fun a b => tabT_tie hu.tab a (by omega) (by omega)
  have hpart : ∀ j, powT26 ms hs.length u j = stillT ms hs.length ↔ lcmL (u.2.flatMap fun r => r.map (ordF ms)) ∣ j := fun j => by
    constructor
    · intro e
      refine lcmL_dvd _ fun y hy => ?_
      obtain ⟨r, hr, hy⟩ := List.mem_flatMap.mp hy
      obtain ⟨τ, hτ, rfl⟩ := List.mem_map.mp hy
      obtain ⟨a, ha⟩ := List.mem_iff_getElem?.mp hr
      obtain ⟨b, hb⟩ := List.mem_iff_getElem?.mp hτ
      have h1 := hu.tab.2 a r ha
      have h2 := (List.getElem?_eq_some_iff.mp ha).1
      have h3 := (List.getElem?_eq_some_iff.mp hb).1
      have h4 := hu.tab.1
      have hab : tabT u.2 a b = τ := by
        rw [tabT_gt (by omega)]
        exact tt_of ha hb
      have := pow_tab26 hM hu hid (i := a) (j := b) (by omega) (by omega) j
      rw [e, still_tt26 (by omega) (by omega), hab] at this
      refine ord_dvd26 hM (h1.2 τ hτ) ?_
      unfold zeroAt
      rw [beq_iff_eq]
      exact this.symm
    · intro hd
      refine turn_ext (pow_turn26 hM hu j) (still_turn hM) ?_ fun a b ha hb => ?_
      · refine ext_of_get (by rw [(pow_turn26 hM hu j).lead.len]; show _ = (List.range hs.length).length; rw [List.length_range]) fun c x y e1 e2 => ?_
        have hc : c < hs.length := by
          have := (List.getElem?_eq_some_iff.mp e1).1
          rw [(pow_turn26 hM hu j).lead.len] at this
          exact this
        have e2 : (List.range hs.length)[c]? = some y := e2
        rw [List.getElem?_range hc] at e2
        cases e2
        rw [pow_lead26 hM hu j hc] at e1
        have hul := hu.lead.len
        have : it26 u.1 j c = c := by
          clear e1
          induction j with
          | zero => rfl
          | succ j _ =>
            have hh : ∀ k, it26 u.1 k c = c := fun k => by
              induction k with
              | zero => rfl
              | succ k ih =>
                show u.1.getD (it26 u.1 k c) 0 = c
                rw [ih, List.getD_eq_getElem?_getD, hid c hc]
                rfl
            exact hh (j + 1)
        rw [this] at e1
        exact (Option.some.inj e1).symm
      · have e := pow_tab26 hM hu hid ha hb j
        rw [← tabT_gt hb, ← tabT_gt hb, e, still_tt26 ha hb]
        obtain ⟨r, hr⟩ : ∃ r, u.2[a]? = some r := ⟨_, List.getElem?_eq_getElem (by rw [hu.tab.1]; exact ha)⟩
        have h1 := hu.tab.2 a r hr
        obtain ⟨τ, hτ⟩ : ∃ τ, r[b]? = some τ := ⟨_, List.getElem?_eq_getElem (by rw [h1.1]; exact hb)⟩
        have hab : tabT u.2 a b = τ := by
          rw [tabT_gt hb]
          exact tt_of hr hτ
        have hτT := h1.2 τ (List.mem_of_getElem? hτ)
        have hd1 : ordF ms τ ∣ j := Nat.dvd_trans (dvd_lcmL _ _ (List.mem_flatMap.mpr ⟨r, List.mem_of_getElem? hr, List.mem_map.mpr ⟨τ, List.mem_of_getElem? hτ, rfl⟩⟩)) hd
        rw [hab]
        have hz : zeroAt ms τ j = true := (zeroAt_iff26 hτT j).mpr fun c m x e1 e2 => by
          obtain ⟨q, rfl⟩ := hd1
          have := (zeroAt_iff26 hτT _).mp (ord_spec26 hM hτT).1 c m x e1 e2
          rw [Int.natCast_mul, ← Int.mul_assoc]
          exact Int.dvd_trans this (Int.dvd_mul_right _ _)
        unfold zeroAt at hz
        rw [beq_iff_eq] at hz
        exact hz
  constructor
  · intro e
    have hT : turns26 t ∣ k := lcmL_dvd _ fun y hy => by
      obtain ⟨x, hx, rfl⟩ := List.mem_map.mp hy
      obtain ⟨b, hb⟩ := List.mem_iff_getElem?.mp hx
      have hxl := (ht.lead.hue b x hb).1
      refine (it_dvd26 hi (by omega)).mp ?_
      have := pow_lead26 hM ht k hxl
      rw [e] at this
      have this : (List.range hs.length)[x]? = some (it26 t.1 k x) := this
      rw [List.getElem?_range hxl] at this
      exact (Option.some.inj this).symm
    obtain ⟨j, rfl⟩ := hT
    rw [← pow_mul26 hM ht, ← eu] at e
    rw [ord26, ← eu]
    exact Nat.mul_dvd_mul_left _ ((hpart j).mp e)
  · rintro ⟨q, rfl⟩
    rw [ord26, ← eu, Nat.mul_assoc, ← pow_mul26 hM ht, ← eu]
    exact (hpart _).mpr ⟨q, rfl⟩
end
section
variable {ms hs : List Int} {t : Turn}
theorem pow_mod26 (hM : MsP ms) (ht : TurnP ms hs t) (k : Nat) : powT26 ms hs.length t (k % ord26 ms hs.length t) = powT26 ms hs.length t k := by
  have e := Nat.div_add_mod k (ord26 ms hs.length t)
  conv => rhs; rw [← e]
  rw [← pow_add26 hM ht, (pow_still26 hM ht _).mpr (Nat.dvd_mul_right _ _), still_beh2 hM (pow_turn26 hM ht _)]
end

/-- after q steps the two are the same two -/
def Back39 (ls : List Nat) (a b q : Nat) : Prop := (it26 ls q a = a ∧ it26 ls q b = b) ∨ (it26 ls q a = b ∧ it26 ls q b = a)
theorem Back39.add {ls : List Nat} {a b q r : Nat} (h : Back39 ls a b q) : Back39 ls a b (q + r) ↔ Back39 ls a b r := by
  unfold Back39
  rw [it_add26, it_add26]
  rcases h with ⟨h1, h2⟩ | ⟨h1, h2⟩
  · rw [h1, h2]
  · rw [h1, h2]
    constructor
    · rintro (⟨e1, e2⟩ | ⟨e1, e2⟩)
      · exact .inr ⟨e2, e1⟩
      · exact .inl ⟨e2, e1⟩
    · rintro (⟨e1, e2⟩ | ⟨e1, e2⟩)
      · exact .inr ⟨e2, e1⟩
      · exact .inl ⟨e2, e1⟩
structure Rd27 (hs : List Int) (L left : List Nat) : Prop where
  lead : LeadP hs L
  nd : left.Nodup
  lt : ∀ x ∈ left, x < hs.length
  fix : ∀ x ∈ left, L[x]? = some x
def cyc27 (L path : List Nat) : Nat → List Nat
  | 0 => L
  | c + 1 => (cyc27 L path c).set (path.getD c 0) (path.getD ((c + 1) % path.length) 0)
theorem cyc27_len (L path : List Nat) : ∀ c, (cyc27 L path c).length = L.length
  | 0 => rfl
  | c + 1 => by rw [cyc27, List.length_set, cyc27_len L path c]
theorem cyc27_off {L path : List Nat} {x : Nat} : ∀ c, c ≤ path.length → (∀ k, k < c → path[k]? ≠ some x) → (cyc27 L path c)[x]? = L[x]?
  | 0, _, _ => rfl
  | c + 1, hc, h => by
    have h1 := h c (by omega)
    rw [List.getElem?_eq_getElem (by omega)] at h1
    rw [cyc27, List.getElem?_set_ne (fun e => h1 (by rw [List.getD_eq_getElem?_getD, List.getElem?_eq_getElem (by omega)] at e; exact congrArg some e)), cyc27_off c (by omega) fun k hk => h k (by omega)]
theorem cyc27_on {L path : List Nat} (nd : path.Nodup) (hlt : ∀ x ∈ path, x < L.length) : ∀ c, c ≤ path.length → ∀ {k x : Nat}, k < c → path[k]? = some x → (cyc27 L path c)[x]? = some (path.getD ((k + 1) % path.length) 0)
  | 0, _, _, _, hk, _ => by omega
  | c + 1, hc, k, x, hk, hx => by
    have hxm := List.mem_of_getElem? hx
    have hgc : path.getD c 0 = path[c]'(by omega) := by rw [List.getD_eq_getElem?_getD, List.getElem?_eq_getElem (by omega)]; rfl
    rcases Nat.lt_or_ge k c with z | z
    · have hne : path.getD c 0 ≠ x := fun e => by
        rw [hgc] at e
        have e2 : path[c]? = path[k]? := by rw [hx, List.getElem?_eq_getElem (by omega), e]
        have := (List.getElem?_inj (by omega) nd).mp e2
        omega
      rw [cyc27, List.getElem?_set_ne hne, cyc27_on nd hlt c (by omega) z hx]
    · have : k = c := by omega
      subst this
      have e : path.getD k 0 = x := by rw [List.getD_eq_getElem?_getD, hx]; rfl
      rw [cyc27, e, List.getElem?_set_self (by rw [cyc27_len]; exact hlt x hxm)]
theorem Rd27.start (hs : List Int) {left : List Nat} (h : left.Perm (List.range hs.length)) : Rd27 hs (List.range hs.length) left :=
  ⟨lead_still hs, h.nodup_iff.mpr List.nodup_range, fun x hx => List.mem_range.mp (h.mem_iff.mp hx), fun x hx => List.getElem?_range (List.mem_range.mp (h.mem_iff.mp hx))⟩
theorem Rd27.step {hs : List Int} {L left path left' : List Nat} (h : Rd27 hs L left) (nd : path.Nodup) (hsub : ∀ x ∈ path, x ∈ left) (hue : ∀ x ∈ path, ∀ y ∈ path, hs[x]? = hs[y]?)
    (nd' : left'.Nodup) (hsub' : ∀ x ∈ left', x ∈ left ∧ x ∉ path) : Rd27 hs (cyc27 L path path.length) left' := by
  have hlen := h.lead.len
  have hlt : ∀ x ∈ path, x < L.length := fun x hx => by rw [hlen]; exact h.lt x (hsub x hx)
  have on := fun {k x : Nat} (hx : path[k]? = some x) => cyc27_on (L := L) nd hlt path.length (Nat.le_refl _) (List.getElem?_eq_some_iff.mp hx).1 hx
  have off : ∀ x, x ∉ path → (cyc27 L path path.length)[x]? = L[x]? := fun x hx => cyc27_off _ (Nat.le_refl _) fun k _ e => hx (List.mem_of_getElem? e)
  have nx : ∀ k, k < path.length → path[(k + 1) % path.length]? = some (path.getD ((k + 1) % path.length) 0) := fun k hk => by
    have hm := Nat.mod_lt (k + 1) (show 0 < path.length by omega)
    rw [List.getD_eq_getElem?_getD, List.getElem?_eq_getElem hm]; rfl
  have cl : (cyc27 L path path.length).length = hs.length := by rw [cyc27_len, hlen]
  -- of each stem, where it is led
  have val : ∀ x y, (cyc27 L path path.length)[x]? = some y → (∃ k, path[k]? = some x ∧ path[(k + 1) % path.length]? = some y) ∨ (x ∉ path ∧ L[x]? = some y) := fun x y e => by
    by_cases hx : x ∈ path
    · obtain ⟨k, hk, ek⟩ := List.getElem_of_mem hx
      have ek2 : path[k]? = some x := by rw [List.getElem?_eq_getElem hk, ek]
      rw [on ek2] at e
      exact .inl ⟨k, ek2, by rw [nx k hk]; exact e⟩
    · rw [off x hx] at e
      exact .inr ⟨hx, e⟩
  have injL : ∀ x y z, L[x]? = some z → L[y]? = some z → x = y := fun x y z e1 e2 => (List.getElem?_inj (List.getElem?_eq_some_iff.mp e1).1 h.lead.nd).mp (e1.trans e2.symm)
  have inj : ∀ x y z, (cyc27 L path path.length)[x]? = some z → (cyc27 L path path.length)[y]? = some z → x = y := fun x y z e1 e2 => by
    rcases val x z e1 with ⟨k, a1, a2⟩ | ⟨a1, a2⟩ <;> rcases val y z e2 with ⟨j, b1, b2⟩ | ⟨b1, b2⟩
    · have hk := (List.getElem?_eq_some_iff.mp a1).1
      have hj := (List.getElem?_eq_some_iff.mp b1).1
      have e3 := (List.getElem?_inj (List.getElem?_eq_some_iff.mp a2).1 nd).mp (a2.trans b2.symm)
      have : k = j := by
        rcases Nat.lt_or_ge (k + 1) path.length with u | u <;> rcases Nat.lt_or_ge (j + 1) path.length with v | v
        · rw [Nat.mod_eq_of_lt u, Nat.mod_eq_of_lt v] at e3; omega
        · rw [Nat.mod_eq_of_lt u, show j + 1 = path.length by omega, Nat.mod_self] at e3; omega
        · rw [Nat.mod_eq_of_lt v, show k + 1 = path.length by omega, Nat.mod_self] at e3; omega
        · omega
      subst this
      rw [a1] at b1
      exact Option.some.inj b1
    · have zp := List.mem_of_getElem? a2
      exact absurd (by rw [injL y z z b2 (h.fix z (hsub z zp))]; exact zp) b1
    · have zp := List.mem_of_getElem? b2
      exact absurd (by rw [injL x z z a2 (h.fix z (hsub z zp))]; exact zp) a1
    · exact injL x y z a2 b2
  refine ⟨⟨cl, ?_, fun x y e => ?_⟩, nd', fun x hx => h.lt x (hsub' x hx).1, fun x hx => by rw [off x (hsub' x hx).2]; exact h.fix x (hsub' x hx).1⟩
  · rw [List.Nodup, List.pairwise_iff_getElem]
    intro i j hi hj hij e
    have := inj i j _ (List.getElem?_eq_getElem hi) (by rw [List.getElem?_eq_getElem hj, e])
    omega
  · rcases val x y e with ⟨k, a1, a2⟩ | ⟨a1, a2⟩
    · have my := List.mem_of_getElem? a2
      exact ⟨h.lt y (hsub y my), hue y my x (List.mem_of_getElem? a1)⟩
    · exact h.lead.hue x y a2
section
variable {ms hs : List Int} {t : Turn}
/-- a bound of the lengths' common multiple: 3 ^ (stems / 3) -/
theorem cyc_lcm28 {ls : List Nat} (hi : Inj26 ls) (h16 : ls.length ≤ 16) : ∀ (k : Nat) (S : List Nat), S.length ≤ k → S.Nodup → (∀ x ∈ S, x < ls.length) → (∀ x ∈ S, ls.getD x 0 ∈ S) →
    ∃ m, 0 < m ∧ (∀ x ∈ S, per26 ls x + 1 ∣ m) ∧ m * m * m ≤ 3 ^ S.length
  | _, [], _, _, _, _ => ⟨1, by omega, (fun x hx => absurd hx List.not_mem_nil), by simp⟩
  | 0, _ :: _, hk, _, _, _ => by simp at hk
  | k + 1, x :: S, hk, nd, hlt, hcl => by
    have hx := hlt x List.mem_cons_self
    obtain ⟨p1, p2, p3⟩ := hi.per hx
    have itS : ∀ j, it26 ls j x ∈ x :: S := fun j => by
      induction j with
      | zero => exact List.mem_cons_self
      | succ j ih => exact hcl _ ih
    have rnd : (ringN26 ls x).Nodup := by
      unfold ringN26
      rw [List.Nodup, List.pairwise_map]
      refine List.nodup_range.imp_of_mem fun {a b} ha hb hne e => ?_
      rw [List.mem_range] at ha hb
      rcases Nat.lt_or_ge a b with z | z
      · obtain ⟨d, rfl⟩ : ∃ d, b = a + (d + 1) := ⟨b - a - 1, by omega⟩
        exact p3 d (by omega) (hi.cancel hx a (d + 1) e)
      · obtain ⟨d, rfl⟩ : ∃ d, a = b + (d + 1) := ⟨a - b - 1, by omega⟩
        exact p3 d (by omega) (hi.cancel hx b (d + 1) e.symm)
    have rlen : (ringN26 ls x).length = per26 ls x + 1 := by unfold ringN26; rw [List.length_map, List.length_range]
    have rsub : ∀ y ∈ ringN26 ls x, y ∈ x :: S := fun y hy => by
      obtain ⟨j, _, rfl⟩ := List.mem_map.mp hy
      exact itS j
    have rback : ∀ y < ls.length, ls.getD y 0 ∈ ringN26 ls x → y ∈ ringN26 ls x := fun y hy h => by
      obtain ⟨j, hj, e⟩ := List.mem_map.mp h
      rw [List.mem_range] at hj
      cases j with
      | zero =>
        have e1 : ls.getD (it26 ls (per26 ls x) x) 0 = ls.getD y 0 := p2.trans e
        have := hi.inj _ (hi.it_lt hx _) _ hy e1
        exact List.mem_map.mpr ⟨per26 ls x, List.mem_range.mpr (by omega), this⟩
      | succ j =>
        have := hi.inj _ (hi.it_lt hx j) _ hy e
        exact List.mem_map.mpr ⟨j, List.mem_range.mpr (by omega), this⟩
    obtain ⟨S', eS⟩ : ∃ S', S' = (x :: S).filter fun y => !(ringN26 ls x).contains y := ⟨_, rfl⟩
    have mS : ∀ y, y ∈ S' ↔ y ∈ x :: S ∧ y ∉ ringN26 ls x := fun y => by rw [eS, List.mem_filter]; simp
    have nS : S'.Nodup := by rw [eS]; exact nd.filter _
    have lenS : (ringN26 ls x).length + S'.length = (x :: S).length := by
      have hp : (ringN26 ls x ++ S').Perm (x :: S) := by
        refine (List.perm_ext_iff_of_nodup ?_ nd).mpr fun y => ?_
        · rw [List.nodup_append]
          exact ⟨rnd, nS, fun a ha b hb e => ((mS b).mp hb).2 (e ▸ ha)⟩
        · rw [List.mem_append, mS]
          constructor
          · rintro (h | h)
            · exact rsub y h
            · exact h.1
          · intro h
            by_cases z : y ∈ ringN26 ls x
            · exact .inl z
            · exact .inr ⟨h, z⟩
      rw [← hp.length_eq, List.length_append]
    obtain ⟨m, hm0, hm1, hm2⟩ := cyc_lcm28 hi h16 k S' (by rw [List.length_cons] at hk lenS; omega) nS (fun y hy => hlt y ((mS y).mp hy).1) fun y hy => by
      have hy2 := (mS y).mp hy
      exact (mS _).mpr ⟨hcl y hy2.1, fun h => hy2.2 (rback y (hlt y hy2.1) h)⟩
    refine ⟨(per26 ls x + 1) * m, Nat.mul_pos (by omega) hm0, fun y hy => ?_, ?_⟩
    · by_cases z : y ∈ ringN26 ls x
      · obtain ⟨j, _, rfl⟩ := List.mem_map.mp z
        refine Nat.dvd_trans ((it_dvd26 hi (hi.it_lt hx j)).mp ?_) (Nat.dvd_mul_right _ _)
        rw [← it_add26, Nat.add_comm, it_add26, p2]
      · exact Nat.dvd_trans (hm1 y ((mS y).mpr ⟨hy, z⟩)) (Nat.dvd_mul_left _ _)
    · rw [← lenS, rlen, Nat.pow_add]
      have hc : ∀ p, p < 17 → p * p * p ≤ 3 ^ p := by decide
      have := Nat.mul_le_mul (hc (per26 ls x + 1) (by omega)) hm2
      refine Nat.le_trans (Nat.le_of_eq ?_) this
      generalize per26 ls x + 1 = q
      rw [Nat.mul_mul_mul_comm q m q m, Nat.mul_mul_mul_comm (q * q) (m * m) q m]
theorem turns_bd28 (ht : TurnP ms hs t) (h16 : hs.length ≤ 16) : turns26 t ≤ 350 := by
  have hl := ht.lead.len
  have hi := lead_inj26 ht.lead
  obtain ⟨m, h0, h1, h2⟩ := cyc_lcm28 hi (by omega) _ (List.range t.1.length) (Nat.le_refl _) List.nodup_range (fun x hx => List.mem_range.mp hx) fun x hx => List.mem_range.mpr (hi.lt x (List.mem_range.mp hx))
  have h3 : turns26 t ∣ m := lcmL_dvd _ fun y hy => by
    obtain ⟨x, hx, rfl⟩ := List.mem_map.mp hy
    obtain ⟨k, hk, ek⟩ := List.getElem_of_mem hx
    have hyl : x < t.1.length := by
      have := hi.lt k hk
      rw [List.getD_eq_getElem?_getD, List.getElem?_eq_getElem hk] at this
      rw [← ek]; exact this
    exact h1 x (List.mem_range.mpr hyl)
  have h4 := Nat.le_of_dvd h0 h3
  rw [List.length_range] at h2
  have h5 : 3 ^ t.1.length ≤ 3 ^ 16 := Nat.pow_le_pow_right (by omega) (by omega)
  rcases Nat.lt_or_ge m 351 with z | z
  · omega
  · have h6 := Nat.mul_le_mul (Nat.mul_le_mul z z) z
    have h7 : (351 : Nat) * 351 * 351 = 43243551 := by decide
    have h8 : (3 : Nat) ^ 16 = 43046721 := by decide
    omega
theorem ord_bd28 (hM : MsP ms) (ht : TurnP ms hs t) (h16 : hs.length ≤ 16) : ord26 ms hs.length t ≤ 21000 := by
  have h1 := turns_bd28 ht h16
  have h2 : lcmL ((powT26 ms hs.length t (turns26 t)).2.flatMap fun r => r.map (ordF ms)) ∣ 60 := lcmL_dvd _ fun x hx => by
    obtain ⟨r, hr, hx⟩ := List.mem_flatMap.mp hx
    obtain ⟨τ, hτ, rfl⟩ := List.mem_map.mp hx
    obtain ⟨i, hi, ei⟩ := List.getElem_of_mem hr
    have hτ2 := ((pow_turn26 hM ht (turns26 t)).tab.2 i r (by rw [List.getElem?_eq_getElem hi, ei])).2 τ hτ
    exact ord_dvd26 hM hτ2 (zero60 hM hτ2)
  have h3 := Nat.le_of_dvd (by omega) h2
  exact Nat.mul_le_mul h1 h3
def itP28 (ms : List Int) (t : Turn) : Nat → Spot → Spot
  | 0, p => p
  | k + 1, p => ledP ms t (itP28 ms t k p)
theorem itP_add28 (a : Nat) (p : Spot) : ∀ b, itP28 ms t (a + b) p = itP28 ms t b (itP28 ms t a p)
  | 0 => rfl
  | b + 1 => by
    show ledP ms t (itP28 ms t (a + b) p) = ledP ms t (itP28 ms t b (itP28 ms t a p))
    rw [itP_add28 a p b]
theorem itP_pl28 (hM : MsP ms) (ht : TurnP ms hs t) {p : Spot} (hp : PlP ms hs.length p.1 p.2) : ∀ k, PlP ms hs.length (itP28 ms t k p).1 (itP28 ms t k p).2
  | 0 => hp
  | k + 1 => led_place hM ht (itP_pl28 hM ht hp k)
theorem itP_pow28 (hM : MsP ms) (ht : TurnP ms hs t) {p : Spot} (hp : PlP ms hs.length p.1 p.2) : ∀ k, itP28 ms t k p = ledP ms (powT26 ms hs.length t k) p
  | 0 => (still_led hM hp).symm
  | k + 1 => by
    show ledP ms t (itP28 ms t k p) = ledP ms (behT ms (powT26 ms hs.length t k) t) p
    rw [itP_pow28 hM ht hp k, beh_led hM (pow_turn26 hM ht k) ht hp]
theorem itP_ord28 (hM : MsP ms) (ht : TurnP ms hs t) {p : Spot} (hp : PlP ms hs.length p.1 p.2) : itP28 ms t (ord26 ms hs.length t) p = p := by
  rw [itP_pow28 hM ht hp, (pow_still26 hM ht _).mpr (Nat.dvd_refl _), still_led hM hp]
/-- the length of a place's ring, less one -/
def perP28 (ms : List Int) (n : Nat) (t : Turn) (p : Spot) : Nat := ((List.range (ord26 ms n t)).find? fun k => decide (itP28 ms t (k + 1) p = p)).getD 0
theorem perP_spec28 (hM : MsP ms) (ht : TurnP ms hs t) {p : Spot} (hp : PlP ms hs.length p.1 p.2) :
    perP28 ms hs.length t p < ord26 ms hs.length t ∧ itP28 ms t (perP28 ms hs.length t p + 1) p = p ∧ ∀ k < perP28 ms hs.length t p, itP28 ms t (k + 1) p ≠ p := by
  have ho := ord_pos26 hM ht
  obtain ⟨k, hk⟩ : ∃ k, k + 1 = ord26 ms hs.length t := ⟨ord26 ms hs.length t - 1, by omega⟩
  obtain ⟨m, h1, h2, h3, h4⟩ := find_least26 (p := fun k => decide (itP28 ms t (k + 1) p = p)) (n := ord26 ms hs.length t) (k := k) (by omega) (by rw [hk, decide_eq_true (itP_ord28 hM ht hp)])
  have em : perP28 ms hs.length t p = m := by unfold perP28; rw [h1]; rfl
  rw [em]
  exact ⟨by omega, by simpa using h3, fun j hj => by simpa using h4 j hj⟩
def ringP28 (ms : List Int) (n : Nat) (t : Turn) (p : Spot) : List Spot := (List.range (perP28 ms n t p + 1)).map fun k => itP28 ms t k p
theorem ringP_len28 (n : Nat) (p : Spot) : (ringP28 ms n t p).length = perP28 ms n t p + 1 := by unfold ringP28; rw [List.length_map, List.length_range]
theorem ringP_get28 {n : Nat} {p : Spot} {k : Nat} (h : k ≤ perP28 ms n t p) : (ringP28 ms n t p)[k]? = some (itP28 ms t k p) := by
  unfold ringP28
  rw [List.getElem?_map, List.getElem?_range (by omega)]
  rfl
theorem itP_mul28 {p : Spot} {q : Nat} (h : itP28 ms t q p = p) : ∀ j, itP28 ms t (q * j) p = p
  | 0 => rfl
  | j + 1 => by rw [Nat.mul_succ, itP_add28, itP_mul28 h j, h]
theorem itP_mod28 (hM : MsP ms) (ht : TurnP ms hs t) {p : Spot} (hp : PlP ms hs.length p.1 p.2) (k : Nat) : itP28 ms t k p = itP28 ms t (k % (perP28 ms hs.length t p + 1)) p := by
  conv => lhs; rw [← Nat.div_add_mod k (perP28 ms hs.length t p + 1), itP_add28, itP_mul28 (perP_spec28 hM ht hp).2.1]
/-- on the ring: where some number of times leads -/
theorem ringP_mem28 (hM : MsP ms) (ht : TurnP ms hs t) {p q : Spot} (hp : PlP ms hs.length p.1 p.2) : q ∈ ringP28 ms hs.length t p ↔ ∃ k, itP28 ms t k p = q := by
  constructor
  · intro h
    obtain ⟨k, _, e⟩ := List.mem_map.mp h
    exact ⟨k, e⟩
  · rintro ⟨k, rfl⟩
    rw [itP_mod28 hM ht hp]
    exact List.mem_map.mpr ⟨_, List.mem_range.mpr (Nat.mod_lt _ (by omega)), rfl⟩
theorem ringP_pl28 (hM : MsP ms) (ht : TurnP ms hs t) {p q : Spot} (hp : PlP ms hs.length p.1 p.2) (h : q ∈ ringP28 ms hs.length t p) : PlP ms hs.length q.1 q.2 := by
  obtain ⟨k, rfl⟩ := (ringP_mem28 hM ht hp).mp h
  exact itP_pl28 hM ht hp k
end
theorem minD_snoc28 (x : PyData) (xs : List PyData) (y : PyData) : PySem.W.minD x (xs ++ [y]) = if PySem.W.dataLt y (PySem.W.minD x xs) then y else PySem.W.minD x xs := by
  unfold PySem.W.minD
  rw [List.foldl_append]
  rfl
def preTi28 (C : Addr) (ds : List D) : Prop := ∃ (ms hs : List Int) (t : Turn) (p q : Spot), ds = [frD C ms hs, dturn t, dspot p, dspot q] ∧ MsP ms ∧ hs.length ≤ 16 ∧ TurnP ms hs t ∧ PlP ms hs.length p.1 p.2 ∧ PlP ms hs.length q.1 q.2
def fTi28 : List D → D
  | [.ins _ _ [.tup ms, _], t, p, q] => if uspot q ∈ ringP28 (uints ms) (uturn t).1.length (uturn t) (uspot p) then .int ((ringP28 (uints ms) (uturn t).1.length (uturn t) (uspot p)).idxOf (uspot q) : Nat) else .non
  | _ => .non
theorem fTi28_is (C : Addr) (ms hs : List Int) (t : Turn) (p q : Spot) : fTi28 [frD C ms hs, dturn t, dspot p, dspot q] =
    if q ∈ ringP28 ms t.1.length t p then .int ((ringP28 ms t.1.length t p).idxOf q : Nat) else .non := by
  show (if uspot (dspot q) ∈ ringP28 (uints (dints ms)) (uturn (dturn t)).1.length (uturn (dturn t)) (uspot (dspot p)) then D.int ((ringP28 (uints (dints ms)) (uturn (dturn t)).1.length (uturn (dturn t)) (uspot (dspot p))).idxOf (uspot (dspot q)) : Nat) else .non) = _
  rw [uints_dints, uturn_dturn, uspot_dspot, uspot_dspot]
def preRi28 (ds : List D) : Prop := ∃ (ms hs : List Int) (t : Turn) (p : Spot), ds = [.tup (dints ms), dturn t, dspot p] ∧ MsP ms ∧ hs.length ≤ 16 ∧ TurnP ms hs t ∧ PlP ms hs.length p.1 p.2
def fRi28 : List D → D
  | [.tup ms, t, p] => .lst ((ringP28 (uints ms) (uturn t).1.length (uturn t) (uspot p)).map dspot)
  | _ => .non
theorem fRi28_is (ms : List Int) (t : Turn) (p : Spot) : fRi28 [.tup (dints ms), dturn t, dspot p] = .lst ((ringP28 ms t.1.length t p).map dspot) := by
  show D.lst ((ringP28 (uints (dints ms)) (uturn (dturn t)).1.length (uturn (dturn t)) (uspot (dspot p))).map dspot) = _
  rw [uints_dints, uturn_dturn, uspot_dspot]
section
variable {K : PySem.W.Frag} {l : Option Addr} {ρ : Ro} {m : Nat} {Φ : Nat → D → Prop}
end
theorem idx_le28 : ∀ (R : List Spot) (k : Nat) (x : Spot), R[k]? = some x → R.idxOf x ≤ k
  | [], k, x, e => by simp at e
  | y :: R, 0, x, e => by
    cases e
    rw [List.idxOf_cons_self]
    exact Nat.le_refl _
  | y :: R, k + 1, x, e => by
    have := idx_le28 R k x e
    rw [List.idxOf_cons]
    cases (y == x) <;> simp <;> omega
theorem idx_at28 {R : List Spot} {x : Spot} (hx : x ∈ R) : R[R.idxOf x]? = some x := by
  have h1 := List.idxOf_lt_length_of_mem hx
  rw [List.getElem?_eq_getElem h1, List.getElem_idxOf h1]
section
variable {K : PySem.W.Frag} {l : Option Addr} {ρ : Ro} {m : Nat} {Φ : Nat → D → Prop}
/-- where a place is in a list: goal of e_idxLD behind the place's value -/
theorem idxL28 {ms : List Int} {n : Nat} {R : List Spot} {x : Spot} {Q : Nat → Prop} (hM : MsP ms) (hn : n ≤ 17) (hp : ∀ p ∈ R, PlP ms n p.1 p.2) (hx : x ∈ R) (q : Q (R.idxOf x)) :
    Eqs (dspot x) ∧ ∃ (j : Nat) (z : D), (R.map dspot)[j]? = some z ∧ PyData.eqv z.py (dspot x).py = true ∧ (∀ c z', c < j → (R.map dspot)[c]? = some z' → PyData.eqv z'.py (dspot x).py = false) ∧ Q j := by
  have num : ∀ p, PlP ms n p.1 p.2 → Num 3 1700 (dspot p) := fun p hp => num_place hM hn hp.lt hp.len hp.tie
  have nx := num x (hp x hx)
  refine ⟨nx.eqs (by omega), R.idxOf x, dspot x, by rw [List.getElem?_map, idx_at28 hx]; rfl, nx.same, fun c z' hc hz => ?_, q⟩
  rw [List.getElem?_map, Option.map_eq_some_iff] at hz
  obtain ⟨y, hy, rfl⟩ := hz
  refine (num y (hp y (List.mem_of_getElem? hy))).other nx fun e => ?_
  have e2 := congrArg uspot e
  rw [uspot_dspot, uspot_dspot] at e2
  subst e2
  have := idx_le28 R c y hy
  omega
end
section
variable {ms hs : List Int} {t : Turn}
end

section
variable {ms hs : List Int} {t : Turn}
def mov31 (ms : List Int) (T : List (List (List Int))) (i : Nat) (R : List Nat) : List Int := R.foldl (fun acc o => sumF ms acc (tabT T i o)) (List.replicate ms.length 0)
def even31 (ms : List Int) (T : List (List (List Int))) (i : Nat) (R : List Nat) : Bool := decide (mov31 ms T i R = List.replicate ms.length 0)
def least31 (ls : List Nat) (o : Nat) : Bool := (ringN26 ls o).all fun x => decide (o ≤ x)
def step31 (ms : List Int) (t : Turn) (i : Nat) (acc : Int) (o : Nat) : Int :=
  if o ≠ i ∧ least31 t.1 o = true then acc * (if even31 ms t.2 i (ringN26 t.1 o) = true then D.prod (dints ms) else 0) else acc
def stem31 (ms : List Int) (t : Turn) (i : Nat) : Int := (List.range t.1.length).foldl (step31 ms t i) 1
def stays31 (ms : List Int) (t : Turn) : Int := (((List.range t.1.length).filter fun i => decide (t.1.getD i 0 = i)).map (stem31 ms t)).sum
theorem mov_snoc31 (T : List (List (List Int))) (i : Nat) (R : List Nat) (o : Nat) : mov31 ms T i (R ++ [o]) = sumF ms (mov31 ms T i R) (tabT T i o) := by
  unfold mov31
  rw [List.foldl_append]
  rfl
end
def preEv31 (C : Addr) (ds : List D) : Prop := ∃ (ms hs : List Int) (T : List (List (List Int))) (i : Nat) (R : List Nat), ds = [frD C ms hs, dtab T, .int i, .lst (dnats R)] ∧ MsP ms ∧ TabP ms hs.length T ∧ i < hs.length ∧ R.length ≤ 16 ∧ ∀ o ∈ R, o < hs.length ∧ i ≠ o
def fEv31 : List D → D
  | [.ins _ _ [.tup ms, _], T, .int i, .lst R] => .bl (even31 (uints ms) (utab T) i.toNat (unats R))
  | _ => .non
theorem fEv31_is (C : Addr) (ms hs : List Int) (T : List (List (List Int))) (i : Nat) (R : List Nat) : fEv31 [frD C ms hs, dtab T, .int i, .lst (dnats R)] = .bl (even31 ms T i R) := by
  show D.bl (even31 (uints (dints ms)) (utab (dtab T)) (i : Int).toNat (unats (dnats R))) = _
  rw [uints_dints, utab_dtab, unats_dnats, Int.toNat_natCast]
def preSs31 (C : Addr) (ds : List D) : Prop := ∃ (ms hs : List Int) (t : Turn) (i : Nat), ds = [frD C ms hs, dturn t, .int i] ∧ MsP ms ∧ hs.length ≤ 16 ∧ TurnP ms hs t ∧ i < hs.length ∧ t.1.getD i 0 = i
def fSs31 : List D → D
  | [.ins _ _ [.tup ms, _], t, .int i] => .int (stem31 (uints ms) (uturn t) i.toNat)
  | _ => .non
theorem fSs31_is (C : Addr) (ms hs : List Int) (t : Turn) (i : Nat) : fSs31 [frD C ms hs, dturn t, .int i] = .int (stem31 ms t i) := by
  show D.int (stem31 (uints (dints ms)) (uturn (dturn t)) (i : Int).toNat) = _
  rw [uints_dints, uturn_dturn, Int.toNat_natCast]
def preSy31 (C : Addr) (ds : List D) : Prop := ∃ (ms hs : List Int) (t : Turn) (k : Int), ds = [frD C ms hs, dturn t, .int k] ∧ MsP ms ∧ hs.length ≤ 16 ∧ TurnP ms hs t
def fSy31 : List D → D
  | [.ins _ _ [.tup ms, _], t, .int k] => .int (stays31 (uints ms) (powT26 (uints ms) (uturn t).1.length (uturn t) (k % (ord26 (uints ms) (uturn t).1.length (uturn t) : Nat)).toNat))
  | _ => .non
theorem fSy31_is (C : Addr) (ms hs : List Int) (t : Turn) (k : Int) : fSy31 [frD C ms hs, dturn t, .int k] = .int (stays31 ms (powT26 ms t.1.length t (k % (ord26 ms t.1.length t : Nat)).toNat)) := by
  show D.int (stays31 (uints (dints ms)) (powT26 (uints (dints ms)) (uturn (dturn t)).1.length (uturn (dturn t)) (k % (ord26 (uints (dints ms)) (uturn (dturn t)).1.length (uturn (dturn t)) : Nat)).toNat)) = _
  rw [uints_dints, uturn_dturn]
theorem minN31 (x : Nat) (L : List Nat) : ∃ y, y ∈ x :: L ∧ (∀ z ∈ x :: L, y ≤ z) ∧ PySem.W.minD (D.int (x : Nat)).py (L.map fun q => (D.int (q : Nat)).py) = (D.int (y : Nat)).py := by
  refine snoc_ind (P := fun L => ∃ y, y ∈ x :: L ∧ (∀ z ∈ x :: L, y ≤ z) ∧ PySem.W.minD (D.int (x : Nat)).py (L.map fun q => (D.int (q : Nat)).py) = (D.int (y : Nat)).py) ?_ ?_ L
  · exact ⟨x, List.mem_cons_self, fun z hz => by rw [List.mem_singleton.mp hz]; exact Nat.le_refl _, rfl⟩
  · rintro L l ⟨y, h1, h2, h3⟩
    have e : PySem.W.minD (D.int (x : Nat)).py ((L ++ [l]).map fun q => (D.int (q : Nat)).py) = if PySem.W.dataLt (D.int (l : Nat)).py (D.int (y : Nat)).py then (D.int (l : Nat)).py else (D.int (y : Nat)).py := by
      rw [List.map_append, List.map_cons, List.map_nil, minD_snoc28, h3]
    have e2 : PySem.W.dataLt (D.int (l : Nat)).py (D.int (y : Nat)).py = decide ((l : Int) < (y : Int)) := PySem.W.dataLt_int _ _
    rw [e, e2]
    by_cases z : l < y
    · rw [decide_eq_true (show (l : Int) < (y : Int) by omega), if_pos rfl]
      refine ⟨l, by simp, fun w hw => ?_, rfl⟩
      rcases List.mem_append.mp (show w ∈ (x :: L) ++ [l] from hw) with hw | hw
      · have := h2 w hw; omega
      · rw [List.mem_singleton.mp hw]; exact Nat.le_refl _
    · rw [decide_eq_false (show ¬ (l : Int) < (y : Int) by omega), if_neg Bool.false_ne_true]
      refine ⟨y, List.mem_append.mpr (.inl h1), fun w hw => ?_, rfl⟩
      rcases List.mem_append.mp (show w ∈ (x :: L) ++ [l] from hw) with hw | hw
      · exact h2 w hw
      · rw [List.mem_singleton.mp hw]; omega
theorem plainsN31 (L : List Nat) : D.plains (dnats L) = true := by
  induction L with
  | nil => rfl
  | cons x L ih => rw [dnats, List.map_cons, D.plains]; exact (Bool.and_eq_true _ _).mpr ⟨rfl, ih⟩
theorem depthN31 : ∀ L : List Nat, PyData.depthAll ((dnats L).map D.py) ≤ 60
  | [] => by decide
  | x :: L => by
    have h2 := depthN31 L
    rw [dnats, List.map_cons, List.map_cons, PyData.depthAll]
    rw [dnats] at h2
    have h1 : (D.int (x : Nat)).py.depth ≤ 1 := by simp [D.py, PyData.depth]
    omega
theorem alikeN31 (L : List Nat) : PySem.W.AlikeAll ((dnats L).map D.py) := by
  rw [dnats, List.map_map]
  exact ⟨fun x hx y hy => by
    obtain ⟨p, _, rfl⟩ := List.mem_map.mp hx
    obtain ⟨q, _, rfl⟩ := List.mem_map.mp hy
    show PySem.W.alike (.int p) (.int q) = true
    simp [PySem.W.alike], fun x hx => by
    obtain ⟨p, _, rfl⟩ := List.mem_map.mp hx
    exact fun z => nomatch z⟩
section
variable {K : PySem.W.Frag} {l : Option Addr} {ρ : Ro} {m : Nat} {Φ : Nat → D → Prop}
theorem v_minN31 {R : List Nat} (hne : R ≠ []) (q : ∀ y ∈ R, (∀ z ∈ R, y ≤ z) → Φ m (.int (y : Nat))) : VvC K l ρ (rMinD K) [.lst (dnats R)] m Φ := by
  match R, hne with
  | p :: L, _ =>
    refine v_minD (d0 := D.int (p : Nat)) (ds := dnats L) (plainsN31 (p :: L)) (alikeN31 (p :: L)) (depthN31 (p :: L)) fun d hd e => ?_
    obtain ⟨y, hy, rfl⟩ := List.mem_map.mp (show d ∈ (p :: L).map fun i : Nat => D.int (i : Int) from hd)
    obtain ⟨x, h1, h2, ex⟩ := minN31 p L
    rw [dnats, List.map_map] at e
    have e2 : (D.int (y : Nat)).py = (D.int (x : Nat)).py := e.trans ex
    have e3 : (y : Int) = (x : Int) := by simpa [D.py] using e2
    rw [e3]
    exact q x h1 h2
end
theorem least_is31 {ls : List Nat} {o y : Nat} (h1 : y ∈ ringN26 ls o) (h2 : ∀ z ∈ ringN26 ls o, y ≤ z) : least31 ls o = decide (o = y) := by
  have ho : o ∈ ringN26 ls o := List.mem_map.mpr ⟨0, List.mem_range.mpr (Nat.succ_pos _), rfl⟩
  unfold least31
  by_cases e : o = y
  · rw [decide_eq_true e, List.all_eq_true]
    intro x hx
    have := h2 x hx
    exact decide_eq_true (by omega)
  · rw [decide_eq_false e, List.all_eq_false]
    have := h2 o ho
    exact ⟨y, h1, by rw [decide_eq_true_eq]; omega⟩
/-- a ring of stems that misses the one that is led to itself -/
theorem ring_ne31 {ls : List Nat} (hi : Inj26 ls) {i o : Nat} (hil : i < ls.length) (hti : ls.getD i 0 = i) (ho : o < ls.length) (hne : o ≠ i) : ∀ k, it26 ls k o ≠ i
  | 0 => hne
  | k + 1 => fun e => ring_ne31 hi hil hti ho hne k (hi.inj _ (hi.it_lt ho k) _ hil (e.trans hti.symm))
theorem zipIdx31 (ls : List Nat) : ls.zipIdx = (List.range ls.length).map fun i => (ls.getD i 0, i) := by
  refine List.ext_getElem? fun k => ?_
  rw [List.getElem?_zipIdx, List.getElem?_map]
  by_cases h : k < ls.length
  · rw [List.getElem?_range h, List.getElem?_eq_getElem h, Option.map_some, Option.map_some, List.getD_eq_getElem?_getD, List.getElem?_eq_getElem h, Nat.zero_add]
    rfl
  · rw [List.getElem?_eq_none (by omega), List.getElem?_eq_none (by rw [List.length_range]; omega)]
    rfl
theorem stays_zip31 (ms : List Int) (u : Turn) :
    ((u.1.zipIdx.filter fun a => decide (a.1 = a.2)).map fun a => D.int (stem31 ms u a.2)) = (((List.range u.1.length).filter fun i => decide (u.1.getD i 0 = i)).map (stem31 ms u)).map D.int := by
  rw [zipIdx31, List.filter_map, List.map_map, List.map_map]
  rfl

/-- what is said by all places of one stem, by the first stems -/
def says43 (ms : List Int) (a : Nat) : Nat → List (List (List Int))
  | 0 => [[]]
  | c + 1 => appS35 (if c ≠ a then ties8 ms else [List.replicate ms.length 0]) (says43 ms a c)
def upto43 (ms : List Int) (n c : Nat) : List Spot := (List.range c).flatMap fun a => (says43 ms a n).map fun s => ((a, s) : Spot)
def places43 (ms : List Int) (n : Nat) : List Spot := upto43 ms n n
theorem upto_snoc43 (ms : List Int) (n c : Nat) : upto43 ms n (c + 1) = upto43 ms n c ++ (says43 ms c n).map fun s => ((c, s) : Spot) := by
  rw [upto43, List.range_succ, List.flatMap_append, List.flatMap_singleton]
  rfl
theorem says_len43 (ms : List Int) (a : Nat) : ∀ c, ∀ s ∈ says43 ms a c, s.length = c
  | 0, s, h => by rw [List.mem_singleton.mp h]; rfl
  | c + 1, s, h => by
    obtain ⟨r, h1, k, _, rfl⟩ := appS_mem.mp h
    rw [List.length_append, says_len43 ms a c r h1]
    rfl
section
variable {ls : List Nat}
end
section
variable {ls : List Nat}
end
section
variable {ms hs : List Int} {u : Turn} {x : Nat}
theorem says_mem33 (hM : MsP ms) {a : Nat} : ∀ {n : Nat} {s : List (List Int)}, s ∈ says43 ms a n ↔ s.length = n ∧ ∀ i k, s[i]? = some k → if i ≠ a then TieP ms k else k = zt ms
  | 0, s => by
    rw [says43, List.mem_singleton]
    constructor
    · rintro rfl; exact ⟨rfl, fun c k h => by simp at h⟩
    · rintro ⟨h, _⟩; exact List.eq_nil_of_length_eq_zero h
  | n + 1, s => by
    have hK : ∀ k, k ∈ (if n ≠ a then ties8 ms else [List.replicate ms.length 0]) ↔ if n ≠ a then TieP ms k else k = zt ms := fun k => by
      by_cases e : n = a
      · rw [if_neg (fun z => z e), if_neg (fun z => z e), List.mem_singleton]
      · rw [if_pos e, if_pos e, ties8_iff]
    rw [says43, appS_mem]
    constructor
    · rintro ⟨r, h1, k, hk, rfl⟩
      obtain ⟨h2, h3⟩ := (says_mem33 hM).mp h1
      refine ⟨by rw [List.length_append, h2]; rfl, fun i q e => ?_⟩
      rcases Nat.lt_or_ge i n with z | z
      · rw [List.getElem?_append_left (by omega)] at e
        exact h3 i q e
      · have hl := (List.getElem?_eq_some_iff.mp e).1
        rw [List.length_append, h2] at hl
        obtain rfl : i = n := by simp at hl; omega
        rw [List.getElem?_append_right (by omega), h2, Nat.sub_self] at e
        cases e
        exact (hK k).mp hk
    · rintro ⟨h1, h2⟩
      have hn : n < s.length := by omega
      refine ⟨s.take n, (says_mem33 hM).mpr ⟨by rw [List.length_take]; omega, fun c k e => ?_⟩, s[n], (hK _).mpr (h2 n _ (List.getElem?_eq_getElem hn)), ?_⟩
      · have hc : c < n := by have := (List.getElem?_eq_some_iff.mp e).1; rw [List.length_take] at this; omega
        rw [List.getElem?_take_of_lt hc] at e
        exact h2 c k e
      · rw [List.take_append_getElem hn, ← h1, List.take_length]
theorem says_pl33 (hM : MsP ms) {a n : Nat} (ha : a < n) {s : List (List Int)} : s ∈ says43 ms a n ↔ PlP ms n a s := by
  rw [says_mem33 hM]
  constructor
  · rintro ⟨h1, h2⟩
    refine ⟨ha, h1, fun t ht => ?_, ?_⟩
    · obtain ⟨c, hc⟩ := List.getElem?_of_mem ht
      have := h2 c t hc
      split at this
      · exact this
      · rw [this]; exact rep_tie hM
    · have hal : a < s.length := by omega
      have := h2 a _ (List.getElem?_eq_getElem hal)
      rw [if_neg (fun z => z rfl)] at this
      rw [List.getElem?_eq_getElem hal, this]
  · intro h
    refine ⟨h.len, fun i k e => ?_⟩
    by_cases z : i = a
    · rw [if_neg (fun y => y z)]
      subst z
      exact (Option.some.inj (h.own.symm.trans e)).symm
    · rw [if_pos z]; exact h.tie k (List.mem_of_getElem? e)
theorem places_mem33 (hM : MsP ms) {n : Nat} {p : Spot} : p ∈ places43 ms n ↔ PlP ms n p.1 p.2 := by
  unfold places43 upto43
  rw [List.mem_flatMap]
  constructor
  · rintro ⟨a, ha, h⟩
    obtain ⟨s, hs, rfl⟩ := List.mem_map.mp h
    exact (says_pl33 hM (List.mem_range.mp ha)).mp hs
  · intro h
    exact ⟨p.1, List.mem_range.mpr h.lt, List.mem_map.mpr ⟨p.2, (says_pl33 hM h.lt).mpr h, rfl⟩⟩
end

section
variable {ms hs : List Int} {t : Turn}
/-- how many places there are -/
theorem places_len33 (hM : MsP ms) (n : Nat) : ((places43 ms n).length : Int) = n * D.prod (dints ms) ^ (n - 1) := by
  have hw := ties8_len ms fun m hm => by have := hM.2.2 m hm; omega
  have app : ∀ (K : List (List Int)) (S : List (List (List Int))), (appS35 K S).length = S.length * K.length := fun K S => by
    unfold appS35
    induction S with
    | nil => simp
    | cons s S ih => rw [List.flatMap_cons, List.length_append, ih, List.length_map, List.length_cons, Nat.add_mul, Nat.one_mul, Nat.add_comm]
  have says : ∀ a c, (says43 ms a c).length = (ties8 ms).length ^ (if a < c then c - 1 else c) := fun a c => by
    induction c with
    | zero => rfl
    | succ c ih =>
      rw [says43, app, ih]
      by_cases e : c = a
      · subst e
        rw [if_neg (show ¬ c < c by omega), if_neg (show ¬ c ≠ c from fun z => z rfl), if_pos (show c < c + 1 by omega)]
        simp
      · rw [if_pos e, ← Nat.pow_succ]
        by_cases z : a < c
        · rw [if_pos z, if_pos (by omega), show (c - 1).succ = c + 1 - 1 by omega]
        · rw [if_neg z, if_neg (by omega)]
  have upto : ∀ c ≤ n, (upto43 ms n c).length = c * (ties8 ms).length ^ (n - 1) := fun c => by
    induction c with
    | zero => intro _; simp [upto43]
    | succ c ih =>
      intro hc
      rw [upto_snoc43, List.length_append, List.length_map, ih (by omega), says, if_pos (by omega), Nat.add_mul, Nat.one_mul]
  rw [places43, upto n (Nat.le_refl _), Int.natCast_mul, Int.natCast_pow, hw]
end

theorem log_big35 {n : Int} (h : n.natAbs < 2 ^ 1001) : n.natAbs.log2 < 1002 := by
  rcases Nat.eq_zero_or_pos n.natAbs with z | z
  · rw [z]; decide
  · have := (Nat.log2_lt (by omega)).mpr h
    omega
theorem shows_big35 {n : Int} (h : n.natAbs < 2 ^ 1001) : Shows (.int n) := by
  have hl := log_big35 h
  refine ⟨rfl, ?_, ?_, ?_⟩
  · show decide (n.natAbs.log2 < 1920) = true
    exact decide_eq_true (by omega)
  · simp [D.py, PyData.depth]
  · have q := PyData.shown_le 1100 (by decide) (D.int n).py (by
      show decide ((PyData.shown (.int n)).length ≤ 1100) = true
      refine decide_eq_true ?_
      have e := int_text_length_le (a := n) (k := 1002) (by decide) hl
      show (Str.ofString (toString n)).length ≤ 1100
      rw [PySem.ofString_length]
      omega)
    have w2 : (D.int n).py.weight ≤ 1002 := by
      show PyData.weight (.int n) ≤ 1002
      rw [PyData.weight]
      split <;> omega
    rw [sizeLine_eq]
    omega
def prePl43 (ds : List D) : Prop := ∃ ms hs : List Int, ds = [.tup (dints ms), .int hs.length] ∧ (ms, hs) ∈ cfg35
def fPl43 : List D → D
  | [.tup xs, .int n] => .lst ((places43 (uints xs) n.toNat).map dspot)
  | _ => .non
theorem fPl43_is (ms : List Int) (n : Nat) : fPl43 [.tup (dints ms), .int n] = .lst ((places43 ms n).map dspot) := by
  show D.lst ((places43 (uints (dints ms)) (n : Int).toNat).map dspot) = _
  rw [uints_dints, Int.toNat_natCast]
theorem cfg43 : ∀ q ∈ cfg35, ∀ a < q.2.length, ∀ c < q.2.length + 1, (says43 q.1 a c).length ≤ 30 := by decide +kernel
theorem upto_few43 (ms : List Int) (n : Nat) (h : ∀ a < n, (says43 ms a n).length ≤ 30) : ∀ c ≤ n, (upto43 ms n c).length ≤ c * 30
  | 0, _ => Nat.le_refl _
  | c + 1, hc => by
    have h1 := upto_few43 ms n h c (by omega)
    have h2 := h c (by omega)
    rw [upto_snoc43, List.length_append, List.length_map]
    omega
section
variable {ls : List Nat}
end
theorem spots_num80 {ms : List Int} {n : Nat} {R : List Spot} (hM : MsP ms) (hn : n ≤ 17) (hp : ∀ p ∈ R, PlP ms n p.1 p.2) : Eqs (.lst (R.map dspot)) := by
  have := Num.lst (k := 3) (w := 1700) (xs := R.map dspot) fun x hx => by
    obtain ⟨p, hpR, rfl⟩ := List.mem_map.mp hx
    have h := hp p hpR
    exact num_place hM hn h.lt h.len h.tie
  exact this.eqs (by omega)
def all80 (q : List Int × List Int) : Bool := decide (((turns35 q.1 q.2).map (stays31 q.1)).sum = ((turns35 q.1 q.2).length : Int) * (q.2.eraseDups.length : Int))
theorem all_all80 : cfg35.all all80 = true := by decide +kernel
theorem total80 {ms hs : List Int} (hq : (ms, hs) ∈ cfg35) : ((turns35 ms hs).map (stays31 ms)).sum = ((turns35 ms hs).length : Int) * (hs.eraseDups.length : Int) := of_decide_eq_true (List.all_eq_true.mp all_all80 _ hq)
theorem dups80 : ∀ q ∈ cfg35, q.2.eraseDups.Nodup ∧ (∀ x ∈ q.2, x ∈ q.2.eraseDups) ∧ ∀ x ∈ q.2.eraseDups, x ∈ q.2 := by decide +kernel
theorem dist80 {ms hs : List Int} (hq : (ms, hs) ∈ cfg35) {c : Nat} (h : Dist hs c) : c = hs.eraseDups.length := by
  obtain ⟨L, nd, hm, rfl⟩ := h
  obtain ⟨h1, h2, h3⟩ := dups80 _ hq
  exact List.Perm.length_eq ((List.perm_ext_iff_of_nodup nd h1).mpr fun x => ⟨fun z => h2 x ((hm x).mp z), fun z => (hm x).mpr (h3 x z)⟩)

local macro_rules | `(tactic| walk_at "ev1") => `(tactic| first
  | with_reducible refine Wl.v_rep0 (by assumption) ?_
  | ((with_reducible refine And.intro Wl.pStem ?_); (rw [Wl.fStem_is]))
  | ((with_reducible refine And.intro (Wl.pNou (by assumption)) ?_); (rw [Wl.fNou_is]))
  | ((with_reducible refine And.intro (Wl.pTT (by assumption) (by assumption) (by assumption)) ?_); (first | rw [Wl.fSum_is] | rw [Wl.fLess_is])))
local macro_rules | `(tactic| walk_at "yes") => `(tactic| first | rw [if_pos (decide_eq_true (by assumption))] | rw [if_pos (decide_eq_true (by omega))])
local macro_rules | `(tactic| walk_at "no") => `(tactic| first | rw [if_neg (by rw [decide_eq_false (by assumption)]; exact Bool.false_ne_true)] | rw [if_neg (by rw [decide_eq_false (by omega)]; exact Bool.false_ne_true)])
local macro_rules | `(tactic| walk_at "xv") => `(tactic| (repeat (first
  | with_reducible refine Wt.e_isX (by with_unfolding_all rfl) (by first | exact L2.ClsV.own _ | exact L2.ClsV.ty _) (We.Ex.toExF (by assumption)) (by assumption) ?_
  | with_reducible refine Wt.e_isXT (by with_unfolding_all rfl) (by with_unfolding_all rfl) (by decide) (by repeat (first | exact L2.Paired.nil | refine L2.Paired.cons (by first | exact L2.ClsV.own _ | exact L2.ClsV.ty _) ?_)) (We.Ex.toExF (by assumption)) (by assumption) ?_
  | with_reducible refine Wt.e_xfH (by with_unfolding_all rfl) (We.Ex.toExF (by assumption)) (We.Ex.no (by assumption)) ?_
  | walk_at "ev1")))
local macro_rules | `(tactic| walk_at "ev1") => `(tactic| first
  | with_reducible refine Wl.e_ofD (by with_unfolding_all rfl) ?_
  | with_reducible refine Wl.e_ofOwn (by with_unfolding_all rfl) (by with_unfolding_all rfl) ?_ ?_ ?_ ?_
  | fail)
section
variable {P : Program} {w : World} {K : PySem.W.Frag}
variable {mg : Str → Option Value} {base : Heap} {cFrame cNoFrame cTurnError : Addr}
theorem ok_is_whole {f : Addr} {fd : FuncData} (F : Fun K "is_whole" "is_whole" s_is_whole f fd)
    (m_bool : mg "bool" = none)
    (m_int : mg "int" = none)
    (m_isinstance : mg "isinstance" = none) :
    FnOk P w K mg base CX0 1 f fd ["thing"] (SpP K preWhole fWhole) := by
  refine F.ok sc_is_whole (fun vs H Q E h => ?len) (fun cdv A outer s H vs Q E hr h => ⟨_, (pss_one (ps_ret (pe_and (pe_callB (show CallR _ _ (rIsi K) from call_isi) (by rfl) m_isinstance (by decide +kernel) (pa_cons (pv 0) (pa_cons (pe_bltn (v := .ty "int") (by rfl) m_int (by decide +kernel) rfl) pa_nil))) (pe_one (pe_not (pe_callB (show CallR _ _ (rIsi K) from call_isi) (by rfl) m_isinstance (by decide +kernel) (pa_cons (pv 0) (pa_cons (pe_bltn (v := .ty "bool") (by rfl) m_bool (by decide +kernel) rfl) pa_nil)))))))), ?r⟩)
  case len =>
    obtain ⟨B, ds, _, is, ⟨d, rfl, _⟩, _⟩ := h
    exact is.length
  case r =>
    refine body_P h fun ds hp hl => ?_
    obtain ⟨d, rfl, ho⟩ := hp
    refine s_ret (e_andV (e_isi kit_int (e_var rfl ⟨ho, _, rfl, ?_⟩)))
    cases d <;> first | (cases ho; done) | (exact rfl) | skip
    all_goals
      refine e_notV (e_isi kit_bool (e_var rfl ⟨rfl, _, rfl, ?_⟩))
      rfl

theorem ok_product {f : Addr} {fd : FuncData} (F : Fun K "product" "product" s_product f fd)
 :
    FnOk P w K mg base CX0 1 f fd ["numbers"] (SpP K preProd8 fProd8) := by
  refine F.ok sc_product (fun vs H Q E h => ?len) (fun cdv A outer s H vs Q E hr h => ⟨_, (pss_cons (ps_set (i := 1) sc_product.nd rfl (by first | exact Or.inl rfl | exact Or.inr rfl) pe_int)
      (pss_cons (ps_for PassesOwn.never rfl (pi_seq (pv 0)) (pg_name (i := 2) sc_product.nd rfl (by first | exact Or.inl rfl | exact Or.inr rfl)) (pss_one (ps_aug (i := 1) sc_product.nd rfl (by first | exact Or.inl rfl | exact Or.inr rfl) (pv 2) iop_mul)))
      (pss_one (ps_ret (pv 1))))), ?r⟩)
  case len =>
    obtain ⟨B, ds, _, is, ⟨ns, rfl | rfl, _⟩, _⟩ := h
    · exact is.length
    · exact is.length
  case r =>
    refine body_P h fun ds hp hl => ?_
    obtain ⟨ns, rfl | rfl, hn⟩ := hp
    ·
      refine s_seq (s_asg (e_int ?_))
      refine s_seq (s_forS (e_var rfl ⟨_, .inl rfl, fun i _ ρ' => ∃ x, ρ' = [some (.dat (.lst (dints ns))), some (.dat (.int (D.prod (dints (ns.take i))))), x], ⟨_, rfl⟩, ?_, ?_⟩))
      · intro i n ρ' d hd hI
        obtain ⟨x, rfl⟩ := hI
        have hi : i < ns.length := by
          have := (List.getElem?_eq_some_iff.mp hd).1
          simpa [dints] using this
        have ed : d = .int ns[i] := by
          rw [dints, List.getElem?_map, List.getElem?_eq_getElem hi] at hd
          exact (Option.some.inj hd).symm
        subst ed
        have hb := hn ns[i] (List.getElem_mem hi)
        refine s_aug rfl (e_var rfl (v_I (.inr ⟨by omega, by omega⟩) ?_))
        refine ⟨some (.dat (.int ns[i])), ?_⟩
        rw [prod_take hi]
        rfl
      · intro n ρ' hI
        obtain ⟨x, rfl⟩ := hI
        have e : ns.take (dints ns).length = ns := by
          rw [dints, List.length_map, List.take_length]
        rw [e]
        exact s_ret (e_var rfl rfl)
    ·
      refine s_seq (s_asg (e_int ?_))
      refine s_seq (s_forS (e_var rfl ⟨_, .inr rfl, fun i _ ρ' => ∃ x, ρ' = [some (.dat (.tup (dints ns))), some (.dat (.int (D.prod (dints (ns.take i))))), x], ⟨_, rfl⟩, ?_, ?_⟩))
      · intro i n ρ' d hd hI
        obtain ⟨x, rfl⟩ := hI
        have hi : i < ns.length := by
          have := (List.getElem?_eq_some_iff.mp hd).1
          simpa [dints] using this
        have ed : d = .int ns[i] := by
          rw [dints, List.getElem?_map, List.getElem?_eq_getElem hi] at hd
          exact (Option.some.inj hd).symm
        subst ed
        have hb := hn ns[i] (List.getElem_mem hi)
        refine s_aug rfl (e_var rfl (v_I (.inr ⟨by omega, by omega⟩) ?_))
        refine ⟨some (.dat (.int ns[i])), ?_⟩
        rw [prod_take hi]
        rfl
      · intro n ρ' hI
        obtain ⟨x, rfl⟩ := hI
        have e : ns.take (dints ns).length = ns := by
          rw [dints, List.length_map, List.take_length]
        rw [e]
        exact s_ret (e_var rfl rfl)

theorem ok_like_counts {f : Addr} {fd : FuncData} (F : Fun K "like_counts" "like_counts" s_like_counts f fd)
    (m_enumerate : mg "enumerate" = none) :
    FnOk P w K mg base CX0 1 f fd ["marks"] (SpP K preLc8 fLc8) := by
  refine F.ok sc_like_counts (fun vs H Q E h => ?len) (fun cdv A outer s H vs Q E hr h => ⟨_, (pss_one (ps_ret (pe_either (pe_lc (own := [("at", 1), ("mark", 2)]) (g := gTup K 2 (gCons (gName 1) (gCons (gName 2) gNil))) (tt := tYes) rfl sc_like_counts.nd (pi_enL (by rfl) m_enumerate (pa_cons (pv 0) pa_nil)) (blkOk_by (own := [("at", 1), ("mark", 2)]) (N := ["marks", "at", "mark"]) (sc := defScope s_like_counts) (by decide +kernel)) (fun _ _ _ _ _ => (pg_tup rfl (pgs_cons (pg_name (i := 1) sc_like_counts.nd rfl (by first | exact Or.inl rfl | exact Or.inr rfl)) (pgs_cons (pg_name (i := 2) sc_like_counts.nd rfl (by first | exact Or.inl rfl | exact Or.inr rfl)) pgs_nil)))) (fun _ _ _ _ _ => pts_nil) (fun _ _ _ _ _ => (pe_bmK (K := K) rfl PySem.F.plainAttrs_list PySem.F.slot_list_count PySem.F.type_list_count (show MtR _ _ (rCntD K) from mt_cntD hr.u200) (pe_slice (show SlR _ (rSlL K) from sl_list) (pv 0) (po_some (pv 1)) po_none) (pa_cons (pv 2) pa_nil)))) (pe_lc (own := [("at", 1), ("mark", 2)]) (g := gTup K 2 (gCons (gName 1) (gCons (gName 2) gNil))) (tt := tYes) rfl sc_like_counts.nd (pi_enT (by rfl) m_enumerate (pa_cons (pv 0) pa_nil)) (blkOk_by (own := [("at", 1), ("mark", 2)]) (N := ["marks", "at", "mark"]) (sc := defScope s_like_counts) (by decide +kernel)) (fun _ _ _ _ _ => (pg_tup rfl (pgs_cons (pg_name (i := 1) sc_like_counts.nd rfl (by first | exact Or.inl rfl | exact Or.inr rfl)) (pgs_cons (pg_name (i := 2) sc_like_counts.nd rfl (by first | exact Or.inl rfl | exact Or.inr rfl)) pgs_nil)))) (fun _ _ _ _ _ => pts_nil) (fun _ _ _ _ _ => (pe_bmT PySem.F.plainAttrs_tuple PySem.F.slot_tuple_count PySem.F.type_tuple_count (show MtR _ _ (rCntT K) from mt_cntT) (pe_slice (show SlR _ (rSlC K) from sl_tupC) (pv 0) (po_some (pv 1)) po_none) (pa_cons (pv 2) pa_nil))))))), ?r⟩)
  case len =>
    obtain ⟨B, ds, _, is, hp, _⟩ := h
    rcases hp with ⟨k, w, S, rfl, _⟩ | ⟨hs, rfl, _⟩ <;> exact is.length
  case r =>
    refine body_P h fun ds hp hl => ?_
    rcases hp with ⟨k, w, S, rfl, hS, hk, hn⟩ | ⟨hs, rfl, hn⟩
    · classical
      show SvC K none _ _ 0 (fun _ _ => D.lst (dints (likeD S)) = .non) fun _ d => d = D.lst (dints (likeD S))
      walk_at "body"
      refine s_ret (e_eitherL ?_)
      refine e_lcELf rfl rfl (by decide) ?_
      walk_at "ev"
      refine ⟨D, S, id, fun c a => .int (((S.drop c).countP fun b => decide (b = a) : Nat) : Int), (List.map_id S).symm, by omega, fun c a hc => ?_, ?_⟩
      · have hlt := (List.getElem?_eq_some_iff.mp hc).1
        walk_at "ro"
        refine e_cntD ?_
        walk_at "ev"
        have hcut : cutD S (some (c : Int)) none = S.drop c := cut_from8 (by omega)
        have ha := hS a (List.mem_of_getElem? hc)
        have hd : ∀ b ∈ S.drop c, Num k w b := fun b hb => hS b (List.mem_of_mem_drop hb)
        refine ⟨k, w, fun e he => ?_, ha, by omega, rfl, ?_⟩
        · rw [hcut] at he
          exact hd e he
        · rw [hcut]
          refine congrArg (fun n : Nat => D.int (n : Int)) (List.countP_congr fun b hb => ?_)
          show PyData.eqv b.py a.py = true ↔ _
          rw [(hd b hb).eqv ha, decide_eq_true_eq]
      · rw [likeD_idx]
    · classical
      show SvC K none _ _ 0 (fun _ _ => D.lst (dints (likeD (dints hs))) = .non) fun _ d => d = D.lst (dints (likeD (dints hs)))
      walk_at "body"
      refine s_ret (e_eitherR ?_)
      refine e_lcEf rfl rfl (by decide) ?_
      walk_at "ev"
      refine ⟨Int, hs, .int, fun c a => .int (((hs.drop c).count a : Nat) : Int), rfl, by omega, fun c a hc => ?_, ?_⟩
      · have hlt := (List.getElem?_eq_some_iff.mp hc).1
        walk_at "ro"
        refine e_cntT (e_slT ?_)
        walk_at "ev"
        refine ⟨hs.drop c, ?_, ?_⟩
        · rw [cut_from8 (by rw [dints_length]; omega)]
          show D.tup ((hs.map D.int).drop c) = D.tup ((hs.drop c).map D.int)
          rw [List.map_drop]
        walk_at "ev"
        rfl
      · rw [likeD_ints]

theorem ok_common_divisor {f : Addr} {fd : FuncData} (F : Fun K "common_divisor" "common_divisor" s_common_divisor f fd)
 :
    FnOk P w K mg base CX0 1 f fd ["one", "other"] (SpP K preCd26 fCd26) := by
  refine F.ok sc_common_divisor (fun vs H Q E h => ?len) (fun cdv A outer s H vs Q E hr h => ⟨_, (pss_cons (ps_par (i := 2) (j := 3) rfl sc_common_divisor.nd rfl rfl (by decide) rfl rfl (pa_cons (pv 0) (pa_cons (pv 1) pa_nil)) (by rfl))
      (pss_cons (ps_while PassesOwn.never (pt_cmpR op_gt (pv 3) pe_int (nomark _)) (pss_one (ps_par (i := 2) (j := 3) rfl sc_common_divisor.nd rfl rfl (by decide) rfl rfl (pa_cons (pv 3) (pa_cons (pe_op op_mod (pv 2) (pv 3)) pa_nil)) (by rfl))))
      (pss_one (ps_ret (pv 2))))), ?r⟩)
  case len =>
    obtain ⟨B, ds, _, is, ⟨a, b, rfl⟩, _⟩ := h
    exact is.length
  case r =>
    refine body_P h fun ds hp hl => ?_
    obtain ⟨a, b, rfl⟩ := hp
    rw [fCd26_is]
    walk_at "body"
    walk_at "ev"
    refine s_seq (s_while (q0 := b) (I := fun q n ρ' => ∃ x y : Nat, ρ' = [some (.dat (.int a)), some (.dat (.int b)), some (.dat (.int x)), some (.dat (.int y))] ∧ Nat.gcd x y = Nat.gcd a b ∧ y = q) ⟨a, b, rfl, rfl, rfl⟩ ?_)
    intro q n ρ' hI
    obtain ⟨x, y, rfl, hg, rfl⟩ := hI
    walk_at "ev"
    by_cases hy : 0 < y
    · rw [if_pos (decide_eq_true (show (0 : Int) < (y : Int) by omega))]
      walk_at "ev"
      refine v_I (show (0 : Int) < (y : Int) by omega) ?_
      walk_at "ev"
      refine ⟨x % y, Nat.mod_lt _ hy, y, x % y, by rw [Int.natCast_emod], ?_, rfl⟩
      rw [Nat.gcd_comm, ← Nat.gcd_rec, Nat.gcd_comm, hg]
    · rw [if_neg (by rw [decide_eq_false (show ¬ (0 : Int) < (y : Int) by omega)]; exact Bool.false_ne_true)]
      have h0 : y = 0 := by omega
      rw [h0, Nat.gcd_zero_right] at hg
      rw [← hg]
      refine s_next ?_
      walk_at "ev"
      rfl

theorem ok_nought {f : Addr} {fd : FuncData} (F : Fun K "nought" "nought" s_nought f fd)
    (m_len : mg "len" = none) :
    FnOk P w K mg base CX0 1 f fd ["measure"] (SpP K preMs1 fNou) := by
  refine F.ok sc_nought (fun vs H Q E h => ?len) (fun cdv A outer s H vs Q E hr h => ⟨_, (pss_one (ps_ret (pe_op (show OpR _ _ (rRepA K) from op_repA) (pe_tupC (pa_cons pe_int pa_nil)) (pe_callB (show CallR _ _ (rLenQ K) from call_len_seq) (by rfl) m_len (by decide +kernel) (pa_cons (pv 0) pa_nil))))), ?r⟩)
  case len =>
    obtain ⟨B, ds, _, is, ⟨ms, rfl, _⟩, _⟩ := h
    exact is.length
  case r =>
    refine body_P h fun ds hp hl => ?_
    obtain ⟨ms, rfl, hM⟩ := hp
    rw [fNou_is]
    walk_at "body"
    walk_at "ev"
    rfl

theorem ok_tie_sum {f : Addr} {fd : FuncData} (F : Fun K "tie_sum" "tie_sum" s_tie_sum f fd)
    (m_tuple : mg "tuple" = none)
    (m_zip : mg "zip" = none) :
    FnOk P w K mg base CX0 1 f fd ["measure", "one", "other"] (SpP K preTT fSum) := by
  refine F.ok sc_tie_sum (fun vs H Q E h => ?len) (fun cdv A outer s H vs Q E hr h => ⟨_, (pss_one (ps_ret (pe_callTy (show CallR _ _ (rTupC K) from call_tupC) (by rfl) m_tuple (by decide +kernel) (pa_cons (pe_lc (own := [("left", 3), ("right", 4), ("limit", 5)]) (g := gTup K 3 (gCons (gName 3) (gCons (gName 4) (gCons (gName 5) gNil)))) (tt := tYes) rfl sc_tie_sum.nd (pi_zip3 (by rfl) m_zip (pa_cons (pv 1) (pa_cons (pv 2) (pa_cons (pv 0) pa_nil)))) (blkOk_by (own := [("left", 3), ("right", 4), ("limit", 5)]) (N := ["measure", "one", "other", "left", "right", "limit"]) (sc := defScope s_tie_sum) (by decide +kernel)) (fun _ _ _ _ _ => (pg_tup rfl (pgs_cons (pg_name (i := 3) sc_tie_sum.nd rfl (by first | exact Or.inl rfl | exact Or.inr rfl)) (pgs_cons (pg_name (i := 4) sc_tie_sum.nd rfl (by first | exact Or.inl rfl | exact Or.inr rfl)) (pgs_cons (pg_name (i := 5) sc_tie_sum.nd rfl (by first | exact Or.inl rfl | exact Or.inr rfl)) pgs_nil))))) (fun _ _ _ _ _ => pts_nil) (fun _ _ _ _ _ => (pe_op op_mod (pe_op op_add (pv 3) (pv 4)) (pv 5)))) pa_nil)))), ?r⟩)
  case len =>
    obtain ⟨B, ds, _, is, ⟨ms, a, b, rfl, _⟩, _⟩ := h
    exact is.length
  case r =>
    refine body_P h fun ds hp hl => ?_
    obtain ⟨ms, a, b, rfl, hM, ha, hb⟩ := hp
    have h3 := hM.2.1
    have h4 := ha.1
    walk_at "body"
    refine s_ret (e_cb (a_cons (e_lcZ3i (f := fun x y m => (x + y) % m) rfl rfl rfl (by decide) (by decide) (by decide) ?_)))
    walk_at "ev"
    refine ⟨a, b, ms, rfl, by omega, ?_, ?_⟩
    · intro c x y z e1 e2 e3
      have hz : 0 < z := by have := hM.2.2 z (List.mem_of_getElem? e3); omega
      walk_at "ev"
      rfl
    · walk_at "ev"
      show D.tup _ = D.tup (dints (sumF _ _ _))
      rw [uints_dints, uints_dints, uints_dints, sumF]

theorem ok_tie_times {f : Addr} {fd : FuncData} (F : Fun K "tie_times" "tie_times" s_tie_times f fd)
    (m_tuple : mg "tuple" = none)
    (m_zip : mg "zip" = none) :
    FnOk P w K mg base CX0 1 f fd ["measure", "tie", "times"] (SpP K preTimes fTimes) := by
  refine F.ok sc_tie_times (fun vs H Q E h => ?len) (fun cdv A outer s H vs Q E hr h => ⟨_, (pss_one (ps_ret (pe_callTy (show CallR _ _ (rTupC K) from call_tupC) (by rfl) m_tuple (by decide +kernel) (pa_cons (pe_lc (own := [("number", 3), ("limit", 4)]) (g := gTup K 2 (gCons (gName 3) (gCons (gName 4) gNil))) (tt := tYes) rfl sc_tie_times.nd (RZ.pi_zipA (by rfl) m_zip (pa_cons (pv 1) (pa_cons (pv 0) pa_nil))) (blkOk_by (own := [("number", 3), ("limit", 4)]) (N := ["measure", "tie", "times", "number", "limit"]) (sc := defScope s_tie_times) (by decide +kernel)) (fun _ _ _ _ _ => (pg_tup rfl (pgs_cons (pg_name (i := 3) sc_tie_times.nd rfl (by first | exact Or.inl rfl | exact Or.inr rfl)) (pgs_cons (pg_name (i := 4) sc_tie_times.nd rfl (by first | exact Or.inl rfl | exact Or.inr rfl)) pgs_nil)))) (fun _ _ _ _ _ => pts_nil) (fun _ _ _ _ _ => (pe_op op_mod (pe_op op_mul (pv 3) (pv 2)) (pv 4)))) pa_nil)))), ?r⟩)
  case len =>
    obtain ⟨B, ds, _, is, ⟨ms, t, n, rfl, _⟩, _⟩ := h
    exact is.length
  case r =>
    refine body_P h fun ds hp hl => ?_
    obtain ⟨ms, t, n, rfl, hM, ht⟩ := hp
    have h3 := hM.2.1
    have h4 := ht.1
    walk_at "body"
    refine s_ret (e_cb (a_cons (e_lcZi (f := fun x m => x * n % m) rfl rfl (by decide) ?_)))
    walk_at "ev"
    refine ⟨by omega, ?_, ?_⟩
    · intro c x z e1 e3
      have hz : 0 < z := by have := hM.2.2 z (List.mem_of_getElem? e3); omega
      have hx := ht.bd hM x (List.mem_of_getElem? e1)
      walk_at "ev"
      refine v_I (.inl ⟨by omega, by omega⟩) ?_
      walk_at "ev"
      rfl
    · walk_at "ev"
      show D.tup _ = D.tup (dints (timesF _ _ _))
      rw [uints_dints, uints_dints, timesF]

theorem ok_table_tie {f : Addr} {fd : FuncData} (F : Fun K "table_tie" "table_tie" s_table_tie f fd)
    (m_max : mg "max" = none)
    (m_min : mg "min" = none) :
    FnOk P w K mg base CX0 1 f fd ["table", "one", "other"] (SpP K preTab fTab) := by
  refine F.ok sc_table_tie (fun vs H Q E h => ?len) (fun cdv A outer s H vs Q E hr h => ⟨_, (pss_one (ps_ret (pe_ix (show IxR _ (rIxT K) from ix_tup) (pe_ix (show IxR _ (rIxT K) from ix_tup) (pv 0) (pe_callB (call_max2 rfl) (by rfl) m_max (by decide +kernel) (pa_cons (pv 1) (pa_cons (pv 2) pa_nil))) (fun _ _ => rfl)) (pe_callB (call_min2 rfl) (by rfl) m_min (by decide +kernel) (pa_cons (pv 1) (pa_cons (pv 2) pa_nil))) (fun _ _ => rfl)))), ?r⟩)
  case len =>
    obtain ⟨B, ds, _, is, ⟨t, i, j, r, d, rfl, _⟩, _⟩ := h
    exact is.length
  case r =>
    refine body_P h fun ds hp hl => ?_
    obtain ⟨t, i, j, r, d, rfl, hi, hj, h1, h2⟩ := hp
    have e : tabAt t i j = d := by
      unfold tabAt
      rw [h1]
      show (dsub r _).getD _ = d
      rw [h2]; rfl
    cases t with
    | tup xs =>
      cases r with
      | tup ys =>
        walk_at "body"
        walk_at "ev"
        refine v_ixT (d := .tup ys) (by split <;> omega) h1 ?_
        walk_at "ev"
        refine v_ixT (d := d) (by split <;> omega) h2 ?_
        exact e.symm
      | _ => cases h2
    | _ => cases h1

theorem ok_stem_ring {f : Addr} {fd : FuncData} (F : Fun K "stem_ring" "stem_ring" s_stem_ring f fd)
 :
    FnOk P w K mg base CX0 1 f fd ["leads", "stem"] (SpP K preSr26 fSr26) := by
  refine F.ok sc_stem_ring (fun vs H Q E h => ?len) (fun cdv A outer s H vs Q E hr h => ⟨_, (pss_cons (ps_set (i := 2) sc_stem_ring.nd rfl (by first | exact Or.inl rfl | exact Or.inr rfl) (pe_lst (pa_cons (pv 1) pa_nil)))
      (pss_cons (ps_while PassesOwn.never (pt_cmpR op_ne (pe_ix (show IxR _ (rIxT K) from ix_tup) (pv 0) (pe_ix (show IxR _ (rIxL K) from ix_list) (pv 2) (pe_un un_neg pe_int) (fun _ _ => rfl)) (fun _ _ => rfl)) (pv 1) (nomark _)) (pss_one (ps_expr (pe_bm PySem.F.plainAttrs_list PySem.F.slot_list_append PySem.F.type_list_append mt_append (pv 2) (pa_cons (pe_ix (show IxR _ (rIxT K) from ix_tup) (pv 0) (pe_ix (show IxR _ (rIxL K) from ix_list) (pv 2) (pe_un un_neg pe_int) (fun _ _ => rfl)) (fun _ _ => rfl)) pa_nil)))))
      (pss_one (ps_ret (pv 2))))), ?r⟩)
  case len =>
    obtain ⟨B, ds, _, is, ⟨ls, x, rfl, _⟩, _⟩ := h
    exact is.length
  case r =>
    refine body_P h fun ds hp hl => ?_
    obtain ⟨ls, x, rfl, hL, h16, hx⟩ := hp
    rw [fSr26_is]
    walk_at "body"
    obtain ⟨p1, p2, p3⟩ := hL.per hx
    refine s_seq (s_ownL (i := 2) ?_)
    walk_at "ev"
    walk_at "ro"
    refine (s_while (q0 := per26 ls x) (I := fun q n ρ' => ∃ k, k + q = per26 ls x ∧ ρ' = [some (.dat (.tup (dnats ls))), some (.dat (.int x)), some (.own (dnats ((List.range (k + 1)).map fun k => it26 ls k x)))]) ⟨0, Nat.zero_add _, rfl⟩ ?_)
    intro q n ρ' hI
    obtain ⟨k, hk, rfl⟩ := hI
    have hlast : (dnats ((List.range (k + 1)).map fun k => it26 ls k x))[(((dnats ((List.range (k + 1)).map fun k => it26 ls k x)).length : Int) + -1).toNat]? = some (.int (it26 ls k x : Nat)) := by
      rw [dnats, List.length_map, List.length_map, List.length_range, show (((k + 1 : Nat) : Int) + -1).toNat = k by omega, List.getElem?_map, List.getElem?_map, List.getElem?_range (by omega)]
      rfl
    have hlen : 0 ≤ ((dnats ((List.range (k + 1)).map fun k => it26 ls k x)).length : Int) + -1 := by
      rw [dnats, List.length_map, List.length_map, List.length_range]; omega
    have hit := hL.it_lt hx k
    have hnx : (dnats ls)[it26 ls k x]? = some (.int (it26 ls (k + 1) x : Nat)) := dnats_get (by
      show ls[it26 ls k x]? = some (ls.getD (it26 ls k x) 0)
      rw [List.getD_eq_getElem?_getD, List.getElem?_eq_getElem hit]
      rfl)
    repeat (first | with_reducible refine e_ixOwnN (i := 2) (by with_unfolding_all rfl) ?_ | walk_at "ev1")
    refine ⟨hlen, _, hlast, ?_⟩
    walk_at "ev"
    by_cases e : it26 ls (k + 1) x = x
    · rw [e, decide_eq_true rfl]
      have hkp : k = per26 ls x := by
        rcases Nat.lt_or_ge k (per26 ls x) with z | z
        · exact absurd e (p3 k z)
        · omega
      rw [Bool.not_true, if_neg Bool.false_ne_true]
      refine s_retOwn8 (i := 2) rfl ?_
      rw [hkp, ringN26]
    · rw [decide_eq_false (show ¬ ((it26 ls (k + 1) x : Nat) : Int) = (x : Int) by omega)]
      have hkp : k < per26 ls x := by
        rcases Nat.lt_or_ge k (per26 ls x) with z | z
        · exact z
        · exact absurd p2 (by rw [show per26 ls x = k by omega]; exact e)
      walk_at "ev"
      refine s_app (i := 2) rfl (by rw [dnats, List.length_map, List.length_map, List.length_range]; omega) ?_
      repeat (first | with_reducible refine e_ixOwnN (i := 2) (by with_unfolding_all rfl) ?_ | walk_at "ev1")
      refine ⟨hlen, _, hlast, ?_⟩
      walk_at "ev"
      refine ⟨q - 1, by omega, k + 1, by omega, ?_⟩
      have er : dnats ((List.range (k + 1 + 1)).map fun k => it26 ls k x) = dnats ((List.range (k + 1)).map fun k => it26 ls k x) ++ [D.int (it26 ls (k + 1) x : Nat)] := by
        rw [List.range_succ (n := k + 1), List.map_append, dnats, dnats, List.map_append]
        rfl
      rw [er]
      rfl

theorem ok_Frame_stem_count {f : Addr} {fd : FuncData} (F : Fun K "stem_count" "Frame.stem_count" s_Frame_stem_count f fd)
    (k_Frame : Own2 K cFrame "measure" "hues")
    (m_len : mg "len" = none) :
    FnOk P w K mg base CX0 1 f fd ["self"] (SpP K (preStem cFrame) fStem) := by
  refine F.ok sc_Frame_stem_count (fun vs H Q E h => ?len) (fun cdv A outer s H vs Q E hr h => ⟨_, (pss_one (ps_ret (pe_callB (show CallR _ _ (rLenQ K) from call_len_seq) (by rfl) m_len (by decide +kernel) (pa_cons (pe_fldK (K := K) rfl (pv 0) rfl) pa_nil)))), ?r⟩)
  case len =>
    obtain ⟨B, ds, _, is, ⟨ms, hs, rfl⟩, _⟩ := h
    exact is.length
  case r =>
    refine body_P h fun ds hp hl => ?_
    obtain ⟨ms, hs, rfl⟩ := hp
    walk_at "body"
    walk_at "ev"
    rfl

theorem ok__law_hand {f : Addr} {fd : FuncData} (F : Fun K "_law_hand" "_law_hand" s__law_hand f fd)
    (m_abs : mg "abs" = none)
    (m_int : mg "int" = none)
    (m_len : mg "len" = none) :
    FnOk P w K mg base CX0 1 f fd ["_law_script", "_law_k"] (SpR K preHand fun _ d => isHand d) := by
  refine F.ok sc__law_hand (fun vs H Q E h => ?len) (fun cdv A outer s H vs Q E hr h => ⟨_, (pss_cons (ps_set (i := 2) sc__law_hand.nd rfl (by first | exact Or.inl rfl | exact Or.inr rfl) (pe_ifExp (pt_cmpR op_lt (pv 1) (pe_callB (show CallR _ _ (rLenQ K) from call_len_seq) (by rfl) m_len (by decide +kernel) (pa_cons (pv 0) pa_nil)) (nomark _)) (pe_ix (show IxR _ (rIxL K) from ix_list) (pv 0) (pv 1) (fun _ _ => rfl)) (pe_op op_add (pe_op op_mul pe_int (pv 1)) pe_int)))
      (pss_cons (ps_set (i := 3) sc__law_hand.nd rfl (by first | exact Or.inl rfl | exact Or.inr rfl) (pe_op op_mulW (pe_op op_mod (pe_callB call_abs (by rfl) m_abs (by decide +kernel) (pa_cons (pv 2) pa_nil)) (pe_op op_powW (pe_op op_pow pe_int pe_int) pe_int)) (pe_callTy call_int1 (by rfl) m_int (by decide +kernel) (pa_cons (pe_cmpR op_ge (pe_callB call_abs (by rfl) m_abs (by decide +kernel) (pa_cons (pv 2) pa_nil)) (pe_op op_pow pe_int pe_int) (nomark _)) pa_nil))))
      (pss_one (ps_ret (pe_lst (pa_cons (pv 3) (pa_cons (pe_op op_mod (pe_op op_add (pe_op op_add (pe_op op_mul (pe_op op_mod (pv 2) pe_int) pe_int) (pe_op op_mul pe_int (pv 1))) pe_int) pe_int) (pa_cons pe_int pa_nil)))))))), ?r⟩)
  case len =>
    obtain ⟨B, ds, _, is, ⟨ns, k, rfl, _⟩, _⟩ := h
    exact is.length
  case r =>
    refine body_R h fun ds hp hl => ?_
    obtain ⟨ns, k, rfl, h0, h1⟩ := hp
    walk_at "body"
    walk_at "ev"
    by_cases hk : k < ns.length
    rw [if_pos (decide_eq_true hk)]
    walk_at "ev"
    refine v_ixS h0 (List.getElem?_eq_getElem (by omega)) ?_
    generalize ns[k.toNat] = c
    rotate_left
    rw [if_neg (by rw [decide_eq_false hk]; exact Bool.false_ne_true)]
    walk_at "ev"
    generalize 7 * k + 3 = c
    all_goals
      walk_at "ev"
      rw [show (((10 : Int) ^ (60 : Int).toNat) ^ (10 : Int).toNat) = 10 ^ 600 by decide +kernel]
      refine v_I ?_ ?_
      · exact hand_mul _ _
      · walk_at "ev"
        exact hand_is _ _ _ _

theorem ok__law_take {f : Addr} {fd : FuncData} (F : Fun K "_law_take" "_law_take" s__law_take f fd)
 :
    FnOk P w K mg base CX0 1 f fd ["_law_hand_here", "_law_many"] (SpH K preTake psiTake) := by
  refine F.ok sc__law_take (fun vs H Q E h => ?len) (fun cdv A outer s H vs Q E hr h => ⟨_, (pss_cons (ps_if (pt_cmpR op_gt (pe_ix (show IxR _ (rIxL K) from ix_list) (pv 0) pe_int (fun _ _ => rfl)) pe_int (nomark _)) (pss_cons (ps_set (i := 4) sc__law_take.nd rfl (by first | exact Or.inl rfl | exact Or.inr rfl) (pe_op op_mod (pe_ix (show IxR _ (rIxL K) from ix_list) (pv 0) pe_int (fun _ _ => rfl)) (pv 1)))
      (pss_cons (ps_asg (pe_op op_fdivW (pe_ix (show IxR _ (rIxL K) from ix_list) (pv 0) pe_int (fun _ _ => rfl)) (pv 1)) (pg_sub (pv 0) pe_int set_list))
      (pss_one (ps_ret (pv 4))))) pss_nil)
      (pss_cons (ps_asg (pe_op op_add (pe_ix (show IxR _ (rIxL K) from ix_list) (pv 0) pe_int (fun _ _ => rfl)) pe_int) (pg_sub (pv 0) pe_int set_list))
      (pss_cons (ps_set (i := 2) sc__law_take.nd rfl (by first | exact Or.inl rfl | exact Or.inr rfl) (pe_ix (show IxR _ (rIxL K) from ix_list) (pe_lst (pa_cons pe_int (pa_cons pe_int (pa_cons pe_int (pa_cons pe_int (pa_cons pe_int (pa_cons pe_int (pa_cons pe_int pa_nil)))))))) (pe_op op_mod (pe_ix (show IxR _ (rIxL K) from ix_list) (pv 0) pe_int (fun _ _ => rfl)) pe_int) (fun _ _ => rfl)))
      (pss_cons (ps_set (i := 3) sc__law_take.nd rfl (by first | exact Or.inl rfl | exact Or.inr rfl) (pe_op op_mod (pe_op op_pow (pe_op op_add (pe_op op_add (pe_ix (show IxR _ (rIxL K) from ix_list) (pv 0) pe_int (fun _ _ => rfl)) (pe_op op_mul (pe_op op_mul pe_int (pe_ix (show IxR _ (rIxL K) from ix_list) (pv 0) pe_int (fun _ _ => rfl))) (pe_ix (show IxR _ (rIxL K) from ix_list) (pv 0) pe_int (fun _ _ => rfl)))) pe_int) pe_int) (pv 2)))
      (pss_one (ps_ret (pe_op op_mod (pe_op op_fdiv (pe_op op_mod (pe_op op_mul (pv 3) (pe_op op_add (pe_op op_mod (pv 3) pe_int) (pe_op op_mul pe_int (pe_ix (show IxR _ (rIxL K) from ix_list) (pv 0) pe_int (fun _ _ => rfl))))) pe_int) pe_int) (pv 1)))))))), ?r⟩)
  case len =>
    obtain ⟨l, ws, B, ds, m, rfl, _, _, _, is, ⟨_, n, rfl, _⟩, _⟩ := h
    show ws.length + 1 = 2
    rw [is.length]; rfl
  case r =>
    refine body_H h fun a ds m hp hl => ?_
    obtain ⟨hm, n, rfl, hn, hn2⟩ := hp
    have hmod : ∀ x : Int, 0 ≤ x % n ∧ x % n < n := fun x =>
      ⟨Int.emod_nonneg x (by omega), Int.emod_lt_of_pos x hn⟩
    walk_at "body"
    walk_at "ev"
    rename_i g g1 g2
    cases decide (0 < g) with
    | true =>
      show SvC _ _ _ _ _ _ _
      walk_at "ev"
      refine s_hand0 rfl ?_
      walk_at "ev"
      rename_i g' g1' g2' g3 g4 g5
      refine v_I ?_ ?_
      · exact wide_div (b := 1100) hn (takeB_nat hn hn2) (by decide) (by decide)
      · have d1 := Int.ediv_nonneg g4 (Int.le_of_lt hn)
        have d2 := Int.ediv_le_self n g4
        refine ⟨_, rfl, d1, by omega, ?_⟩
        exact s_ret (e_var rfl ⟨by omega, n, _, rfl, rfl, hmod g'⟩)
    | false =>
      refine s_next ?_
      walk_at "ev"
      refine s_hand2 rfl ?_
      walk_at "ev"
      rename_i c c1 c2
      refine ⟨_, m + 1, rfl, by omega, by omega, ?_⟩
      walk_at "ev"
      rename_i c3 d1 d2
      obtain ⟨p, hp1, hp2, hp3⟩ := primes_at (Int.emod_nonneg c3 (by decide)) (Int.emod_lt_of_pos c3 (by decide))
      refine v_ixL (Int.emod_nonneg c3 (by decide)) hp1 ?_
      walk_at "ev"
      rename_i sd s1 s2 c4 x1 x2 c5 y1 y2
      refine v_I (.inr ⟨by omega, by omega⟩) ?_
      walk_at "ev"
      refine v_I ?_ ?_
      · exact ⟨by decide, by decide, take_base s1 s2 x1 (by omega) y1 (by omega)⟩
      walk_at "ev"
      have b1 := Int.emod_nonneg ((sd + 7919 * c4 * c5 + 31) ^ (3 : Int).toNat) (show p ≠ 0 by omega)
      have b2 := Int.emod_lt_of_pos ((sd + 7919 * c4 * c5 + 31) ^ (3 : Int).toNat) hp2
      generalize (sd + 7919 * c4 * c5 + 31) ^ (3 : Int).toNat % p = dr at b1 b2 ⊢
      walk_at "ev"
      refine v_I (.inl ⟨by omega, by omega⟩) ?_
      walk_at "ev"
      exact ⟨Nat.le_refl _, n, _, rfl, rfl, hmod _⟩

theorem ok__law_sum {f : Addr} {fd : FuncData} (F : Fun K "_law_sum" "_law_sum" s__law_sum f fd)
    (m_tuple : mg "tuple" = none)
    (m_zip : mg "zip" = none) :
    FnOk P w K mg base CX0 1 f fd ["_law_scale", "_law_here", "_law_there"] (SpP K preTT fSum) := by
  refine F.ok sc__law_sum (fun vs H Q E h => ?len) (fun cdv A outer s H vs Q E hr h => ⟨_, (pss_one (ps_ret (pe_callTy (show CallR _ _ (rTupC K) from call_tupC) (by rfl) m_tuple (by decide +kernel) (pa_cons (pe_lc (own := [("_law_mine", 3), ("_law_its", 4), ("_law_size", 5)]) (g := gTup K 3 (gCons (gName 3) (gCons (gName 4) (gCons (gName 5) gNil)))) (tt := tYes) rfl sc__law_sum.nd (pi_zip3 (by rfl) m_zip (pa_cons (pv 1) (pa_cons (pv 2) (pa_cons (pv 0) pa_nil)))) (blkOk_by (own := [("_law_mine", 3), ("_law_its", 4), ("_law_size", 5)]) (N := ["_law_scale", "_law_here", "_law_there", "_law_mine", "_law_its", "_law_size"]) (sc := defScope s__law_sum) (by decide +kernel)) (fun _ _ _ _ _ => (pg_tup rfl (pgs_cons (pg_name (i := 3) sc__law_sum.nd rfl (by first | exact Or.inl rfl | exact Or.inr rfl)) (pgs_cons (pg_name (i := 4) sc__law_sum.nd rfl (by first | exact Or.inl rfl | exact Or.inr rfl)) (pgs_cons (pg_name (i := 5) sc__law_sum.nd rfl (by first | exact Or.inl rfl | exact Or.inr rfl)) pgs_nil))))) (fun _ _ _ _ _ => pts_nil) (fun _ _ _ _ _ => (pe_op op_mod (pe_op op_add (pv 3) (pv 4)) (pv 5)))) pa_nil)))), ?r⟩)
  case len =>
    obtain ⟨B, ds, _, is, ⟨ms, a, b, rfl, _⟩, _⟩ := h
    exact is.length
  case r =>
    refine body_P h fun ds hp hl => ?_
    obtain ⟨ms, a, b, rfl, hM, ha, hb⟩ := hp
    have h3 := hM.2.1
    have h4 := ha.1
    rw [fSum_is]
    walk_at "body"
    refine s_ret (e_cb (a_cons (e_lcZ3i (f := fun x y m => (x + y) % m) rfl rfl rfl (by decide) (by decide) (by decide) ?_)))
    walk_at "ev"
    refine ⟨a, b, ms, rfl, by omega, ?_, ?_⟩
    · intro c x y z e1 e2 e3
      have hz : 0 < z := by have := hM.2.2 z (List.mem_of_getElem? e3); omega
      walk_at "ev"
      rfl
    · walk_at "ev"
      rfl

theorem ok__law_at {f : Addr} {fd : FuncData} (F : Fun K "_law_at" "_law_at" s__law_at f fd)
 :
    FnOk P w K mg base CX0 1 f fd ["_law_grid", "_law_at_here", "_law_to"] (SpP K preAt fAt) := by
  refine F.ok sc__law_at (fun vs H Q E h => ?len) (fun cdv A outer s H vs Q E hr h => ⟨_, (pss_one (ps_ret (pe_ifExp (pt_cmpR op_lt (pv 2) (pv 1) (nomark _)) (pe_ix (show IxR _ (rIxT K) from ix_tup) (pe_ix (show IxR _ (rIxT K) from ix_tup) (pv 0) (pv 1) (fun _ _ => rfl)) (pv 2) (fun _ _ => rfl)) (pe_ix (show IxR _ (rIxT K) from ix_tup) (pe_ix (show IxR _ (rIxT K) from ix_tup) (pv 0) (pv 2) (fun _ _ => rfl)) (pv 1) (fun _ _ => rfl))))), ?r⟩)
  case len =>
    obtain ⟨B, ds, _, is, ⟨ms, n, T, i, j, rfl, _⟩, _⟩ := h
    exact is.length
  case r =>
    refine body_P h fun ds hp hl => ?_
    obtain ⟨ms, n, T, i, j, rfl, hT, hi, hj, hij⟩ := hp
    rw [fAt_is, tabT]
    walk_at "body"
    walk_at "ev"
    by_cases e : (j : Int) < i
    · obtain ⟨r, t, e1, e2, h3⟩ := hT.at hi (j := j) (by omega)
      have e1' : (T.map fun r => D.tup (r.map fun t => D.tup (dints t)))[i]? = some (D.tup (r.map fun t => D.tup (dints t))) := by
        rw [List.getElem?_map, e1]; rfl
      have e2' := dsays_get e2
      walk_at "yes"
      rw [if_pos (by omega), tt_of e1 e2]
      walk_at "ev"
      rfl
    · obtain ⟨r, t, e1, e2, h3⟩ := hT.at hj (j := i) (by omega)
      have e1' : (T.map fun r => D.tup (r.map fun t => D.tup (dints t)))[j]? = some (D.tup (r.map fun t => D.tup (dints t))) := by
        rw [List.getElem?_map, e1]; rfl
      have e2' := dsays_get e2
      walk_at "no"
      rw [if_neg (by omega), tt_of e1 e2]
      walk_at "ev"
      rfl

theorem ok__law_still {f : Addr} {fd : FuncData} (F : Fun K "_law_still" "_law_still" s__law_still f fd)
    (m_len : mg "len" = none)
    (m_range : mg "range" = none)
    (m_tuple : mg "tuple" = none) :
    FnOk P w K mg base CX0 1 f fd ["_law_scale", "_law_size"] (SpP K preLs fLs) := by
  refine F.ok sc__law_still (fun vs H Q E h => ?len) (fun cdv A outer s H vs Q E hr h => ⟨_, (pss_one (ps_ret (pe_tupC (pa_cons (pe_tupRgC rfl (by rfl) m_tuple (prg_1 (by rfl) m_range (pv 1))) (pa_cons (pe_callTy (show CallR _ _ (rTupC K) from call_tupC) (by rfl) m_tuple (by decide +kernel) (pa_cons (pe_lc (own := [("_law_at_here", 2)]) (g := gName 2) (tt := tYes) rfl sc__law_still.nd (pi_range1 rfl m_range (pa_cons (pv 1) pa_nil)) (blkOk_by (own := [("_law_at_here", 2)]) (N := ["_law_scale", "_law_size", "_law_at_here"]) (sc := defScope s__law_still) (by decide +kernel)) (fun _ _ _ _ _ => (pg_name (i := 2) sc__law_still.nd rfl (by first | exact Or.inl rfl | exact Or.inr rfl))) (fun _ _ _ _ _ => pts_nil) (fun _ _ _ _ _ => (pe_op (show OpR _ _ (rRepA K) from op_repA) (pe_tupC (pa_cons (pe_op (show OpR _ _ (rRepA K) from op_repA) (pe_tupC (pa_cons pe_int pa_nil)) (pe_callB (show CallR _ _ (rLenQ K) from call_len_seq) (by rfl) m_len (by decide +kernel) (pa_cons (pv 0) pa_nil))) pa_nil)) (pv 2)))) pa_nil)) pa_nil))))), ?r⟩)
  case len =>
    obtain ⟨B, ds, _, is, ⟨ms, n, rfl, _⟩, _⟩ := h
    exact is.length
  case r =>
    refine body_P h fun ds hp hl => ?_
    obtain ⟨ms, n, rfl, hM, hn⟩ := hp
    rw [fLs_is]
    walk_at "body"
    walk_at "ev"
    refine ⟨by omega, ?_⟩
    walk_at "ev"
    refine e_lcRf rfl ?_
    walk_at "ev"
    refine ⟨n, fun i => .tup (List.replicate i (.tup (dints (zt ms)))), rfl, by omega, fun i hi => ?_, ?_⟩
    · walk_at "ev"
      refine v_repT (by omega) (by omega) (by simp) ?_
      rw [List.flatten_replicate_singleton, Int.toNat_natCast]
      exact ⟨rfl, rfl⟩
    · walk_at "ev"
      rw [← const_dtab]
      rfl

theorem ok__law_knots {f : Addr} {fd : FuncData} (F : Fun K "_law_knots" "_law_knots" s__law_knots f fd)
    (m_range : mg "range" = none) :
    FnOk P w K mg base CX0 1 f fd ["_law_scale"] (SpP K preKs35 fKs35) := by
  refine F.ok sc__law_knots (fun vs H Q E h => ?len) (fun cdv A outer s H vs Q E hr h => ⟨_, (pss_cons (ps_set (i := 1) sc__law_knots.nd rfl (by first | exact Or.inl rfl | exact Or.inr rfl) (pe_lst (pa_cons (pe_tupC pa_nil) pa_nil)))
      (pss_cons (ps_for PassesOwn.never rfl (pi_tup (pv 0)) (pg_name (i := 2) sc__law_knots.nd rfl (by first | exact Or.inl rfl | exact Or.inr rfl)) (pss_cons (ps_set (i := 3) sc__law_knots.nd rfl (by first | exact Or.inl rfl | exact Or.inr rfl) (pe_lst pa_nil))
      (pss_cons (ps_for PassesOwn.never rfl (pi_list (pv 1)) (pg_name (i := 4) sc__law_knots.nd rfl (by first | exact Or.inl rfl | exact Or.inr rfl)) (pss_one (ps_expr (pe_bm PySem.F.plainAttrs_list PySem.F.slot_list_extend PySem.F.type_list_extend mt_extend (pv 3) (pa_cons (pe_lc (own := [("_law_number", 5)]) (g := gName 5) (tt := tYes) rfl sc__law_knots.nd (pi_range1 rfl m_range (pa_cons (pv 2) pa_nil)) (blkOk_by (own := [("_law_number", 5)]) (N := ["_law_scale", "_law_found", "_law_size", "_law_longer", "_law_some", "_law_number"]) (sc := defScope s__law_knots) (by decide +kernel)) (fun _ _ _ _ _ => (pg_name (i := 5) sc__law_knots.nd rfl (by first | exact Or.inl rfl | exact Or.inr rfl))) (fun _ _ _ _ _ => pts_nil) (fun _ _ _ _ _ => (pe_op (show OpR _ _ (rCatC K) from op_catC) (pv 4) (pe_tupC (pa_cons (pv 5) pa_nil))))) pa_nil)))))
      (pss_one (ps_set (i := 1) sc__law_knots.nd rfl (by first | exact Or.inl rfl | exact Or.inr rfl) (pv 3))))))
      (pss_one (ps_ret (pv 1))))), ?r⟩)
  case len =>
    obtain ⟨B, ds, _, is, ⟨ms, hs, rfl, _⟩, _⟩ := h
    exact is.length
  case r =>
    refine body_P h fun ds hp hl => ?_
    obtain ⟨ms, hs, rfl, hq⟩ := hp
    rw [fKs35_is]
    have C := Cfg35.of hq
    have hM := C.M
    have hml := hM.2.1
    have hsm : ∀ c ≤ ms.length, (ties8 (ms.take c)).length ≤ 30 := fun c hc => cfg35_ties2 _ hq c (by omega)
    have hkl : ∀ c, ∀ k ∈ ties8 (ms.take c), k.length ≤ 3 := fun c k hk => by
      rw [(ties8_tie _ k hk).1, List.length_take]; omega
    walk_at "body"
    walk_at "ev"
    refine s_seq (s_forTw ?_)
    walk_at "ev"
    refine ⟨0, [1, 2, 3, 4], fun c xs => ∃ x2 x3 x4, xs = [some (.dat (.lst (drows8 (ties8 (ms.take c))))), x2, x3, x4], [_, _, _, _], rfl, rfl, ⟨_, _, _, rfl⟩, fun c n1 d xs hd hn1 hx hR => ?_, fun n1 xs hn1 hx hR => ?_⟩
    · obtain ⟨x2, x3, x4, rfl⟩ := hR
      obtain ⟨m, hm, rfl⟩ := dints_get hd
      have hcl := (List.getElem?_eq_some_iff.mp hm).1
      obtain ⟨m0, m5⟩ := hM.2.2 m (List.mem_of_getElem? hm)
      have h30 := hsm c (by omega)
      have hkl := hkl c
      have hsucc : ties8 (ms.take (c + 1)) = appS35 ((List.range m.toNat).map fun (x : Nat) => (x : Int)) (ties8 (ms.take c)) := by
        rw [List.take_add_one, hm, Option.toList_some, ties8_snoc, tstep8, appS35]
        simp only [List.map_map]
        rfl
      generalize ties8 (ms.take c) = A at h30 hkl hsucc ⊢
      walk_at "ro"
      refine s_seq (s_own0 ?_)
      walk_at "ro"
      refine s_seq (s_forLw ?_)
      walk_at "ev"
      refine ⟨0, [3, 4], fun c2 xs => ∃ x4, xs = [some (.own ((appS35 ((List.range m.toNat).map fun (x : Nat) => (x : Int)) (A.take c2)).map fun t => D.tup (dints t))), x4], [_, _], rfl, rfl, ⟨_, rfl⟩, fun c2 n2 d xs hd hn2 hx2 hR2 => ?_, fun n2 xs hn2 hx2 hR2 => ?_⟩
      · obtain ⟨y4, rfl⟩ := hR2
        rw [List.getElem?_map, Option.map_eq_some_iff] at hd
        obtain ⟨k, hk, rfl⟩ := hd
        have hc5 := (List.getElem?_eq_some_iff.mp hk).1
        walk_at "ro"
        refine s_ext (i := 3) rfl ?_
        refine e_lcRf (j := 5) rfl ?_
        walk_at "ev"
        refine ⟨m.toNat, fun x => D.tup (dints (k ++ [(x : Int)])), by omega, by omega, fun x hx => ?_, ?_⟩
        · walk_at "ro"
          walk_at "ev"
          refine v_catT (by rw [dints_length]; simp; have := hkl k (List.mem_of_getElem? hk); omega) ?_
          walk_at "ev"
          rw [dints, dints, List.map_append]
          rfl
        · have hfl : (appS35 ((List.range m.toNat).map fun (x : Nat) => (x : Int)) (A.take c2)).length ≤ 30 * 5 := by
            refine Nat.le_trans (flat_len92 (b := 5) fun k _ => by rw [List.length_map, List.length_map, List.length_range]; omega) (Nat.mul_le_mul_right _ ?_)
            rw [List.length_take]; omega
          refine ⟨_, rfl, by simp only [List.length_map, List.length_range]; omega, by omega, [_, _], rfl, rfl, some (.dat (.tup (dints k))), ?_⟩
          rw [appS_take hk, List.map_append, List.map_map, List.map_map]
          rfl
      · obtain ⟨y4, rfl⟩ := hR2
        rw [List.length_map, List.take_length]
        walk_at "ro"
        refine s_freeze (i := 3) rfl ?_
        walk_at "ro"
        walk_at "ev"
        refine ⟨by omega, [_, _, _, _], rfl, rfl, ?_⟩
        show ∃ x2 x3 x4, [_, _, _, _] = [some (Sl.dat (D.lst (drows8 (ties8 (ms.take (c + 1)))))), x2, x3, x4]
        rw [hsucc]
        exact ⟨_, _, _, rfl⟩
    · obtain ⟨x2, x3, x4, rfl⟩ := hR
      walk_at "ro"
      refine s_next ?_
      walk_at "ev"
      rw [dints_length, List.take_length]

theorem ok__law_orders {f : Addr} {fd : FuncData} (F : Fun K "_law_orders" "_law_orders" s__law_orders f fd)
    (m_len : mg "len" = none)
    (m_range : mg "range" = none) :
    FnOk P w K mg base CX0 1 f fd ["_law_hues"] (SpP K preOs92 fOs92) := by
  refine F.ok sc__law_orders (fun vs H Q E h => ?len) (fun cdv A outer s H vs Q E hr h => ⟨_, (pss_cons (ps_set (i := 1) sc__law_orders.nd rfl (by first | exact Or.inl rfl | exact Or.inr rfl) (pe_lst (pa_cons (pe_tupC pa_nil) pa_nil)))
      (pss_cons (ps_for PassesOwn.never rfl (pi_tup (pv 0)) (pg_name (i := 2) sc__law_orders.nd rfl (by first | exact Or.inl rfl | exact Or.inr rfl)) (pss_cons (ps_set (i := 3) sc__law_orders.nd rfl (by first | exact Or.inl rfl | exact Or.inr rfl) (pe_lst pa_nil))
      (pss_cons (ps_for PassesOwn.never rfl (pi_list (pv 1)) (pg_name (i := 4) sc__law_orders.nd rfl (by first | exact Or.inl rfl | exact Or.inr rfl)) (pss_one (ps_expr (pe_bm PySem.F.plainAttrs_list PySem.F.slot_list_extend PySem.F.type_list_extend mt_extend (pv 3) (pa_cons (pe_lc (own := [("_law_to", 5)]) (g := gName 5) rfl sc__law_orders.nd (pi_range1 rfl m_range (pa_cons (pe_callB (show CallR _ _ (rLenQ K) from call_len_seq) (by rfl) m_len (by decide +kernel) (pa_cons (pv 0) pa_nil)) pa_nil)) (blkOk_by (own := [("_law_to", 5)]) (N := ["_law_hues", "_law_found", "_law_hue", "_law_longer", "_law_some", "_law_to"]) (sc := defScope s__law_orders) (by decide +kernel)) (fun _ _ _ _ _ => (pg_name (i := 5) sc__law_orders.nd rfl (by first | exact Or.inl rfl | exact Or.inr rfl))) (fun _ _ _ _ _ => (pts_one (PW.pt (pw_and (pt_cmpR op_eq (pe_ix (show IxR _ (rIxT K) from ix_tup) (pv 0) (pv 5) (fun _ _ => rfl)) (pv 2) (nomark _)) (pw_and1 (pt_cmpR (show OpR _ _ (rIn K true) from op_notIn_seq) (pv 5) (pv 4) rfl)))))) (fun _ _ _ _ _ => (pe_op (show OpR _ _ (rCatC K) from op_catC) (pv 4) (pe_tupC (pa_cons (pv 5) pa_nil))))) pa_nil)))))
      (pss_one (ps_set (i := 1) sc__law_orders.nd rfl (by first | exact Or.inl rfl | exact Or.inr rfl) (pv 3))))))
      (pss_one (ps_ret (pv 1))))), ?r⟩)
  case len =>
    obtain ⟨B, ds, _, is, ⟨hs, rfl, _⟩, _⟩ := h
    exact is.length
  case r =>
    refine body_P h fun ds hp hl => ?_
    obtain ⟨hs, rfl, hH, h5⟩ := hp
    rw [fOs92_is]
    walk_at "body"
    walk_at "ev"
    refine s_seq (s_forTw ?_)
    walk_at "ev"
    refine ⟨0, [1, 2, 3, 4], fun c xs => ∃ x2 x3 x4, xs = [some (.dat (.lst ((ords92 hs c).map dord))), x2, x3, x4], [_, _, _, _], rfl, rfl, ⟨_, _, _, rfl⟩, fun c n1 d xs hd hn1 hx hR => ?_, fun n1 xs hn1 hx hR => ?_⟩
    · obtain ⟨x2, x3, x4, rfl⟩ := hR
      rw [dints, List.getElem?_map, Option.map_eq_some_iff] at hd
      obtain ⟨z, hz, rfl⟩ := hd
      have hcl := (List.getElem?_eq_some_iff.mp hz).1
      have hmem := ords92_mem (hs := hs) c (by omega)
      have hfew := ords92_few (hs := hs) h5 (c := c) (by omega)
      walk_at "ro"
      refine s_seq (s_own0 ?_)
      walk_at "ro"
      refine s_seq (s_forLw ?_)
      walk_at "ev"
      refine ⟨0, [3, 4], fun c2 xs => ∃ x4, xs = [some (.own ((ordS92 hs ((ords92 hs c).take c2) z).map dord)), x4], [_, _], rfl, rfl, ⟨_, rfl⟩, fun c2 n2 d xs hd hn2 hx2 hR2 => ?_, fun n2 xs hn2 hx2 hR2 => ?_⟩
      · obtain ⟨y4, rfl⟩ := hR2
        rw [List.getElem?_map, Option.map_eq_some_iff] at hd
        obtain ⟨L, hL, rfl⟩ := hd
        have hLl := ((hmem L).mp (List.mem_of_getElem? hL)).len
        walk_at "ro"
        refine s_ext (i := 3) rfl ?_
        refine e_lcRxf (j := 5) rfl ?_
        walk_at "ev"
        refine ⟨hs.length, fun x => decide (hs.getD x 0 = z) && !L.contains x, fun x => dord (L ++ [x]), by rw [dints_length], by omega, fun x hx => ?_, fun x hx => ?_, ?_⟩
        · have hg : (dints hs)[x]? = some (.int (hs.getD x 0)) := by
            rw [dints, List.getElem?_map, List.getD_eq_getElem?_getD, List.getElem?_eq_getElem hx]; rfl
          walk_at "ro"
          walk_at "ev"
          cases decide (hs.getD x 0 = z) with
          | false =>
            walk_at "ev"
            rfl
          | true =>
            walk_at "ev"
            refine v_inT rfl (List.all_eq_true.mpr fun d hd => by obtain ⟨i, _, rfl⟩ := List.mem_map.mp hd; rfl) ?_
            rw [show (D.int (x : Int)).v = V.int (x : Int) from rfl, inV_nats]
            walk_at "ev"
            rfl
        · walk_at "ro"
          walk_at "ev"
          refine v_catT (by rw [List.length_map, hLl]; simp; omega) ?_
          refine ⟨rfl, ?_⟩
          rw [dord, dnats, dnats, List.map_append]
          rfl
        · have hfl : (ordS92 hs ((ords92 hs c).take c2) z).length ≤ 120 * 16 := by
            refine Nat.le_trans (flat_len92 (b := 16) fun K _ => ?_) (Nat.mul_le_mul_right _ ?_)
            · rw [List.length_map]
              refine Nat.le_trans (List.length_filter_le _ _) ?_
              rw [List.length_range]; omega
            · rw [List.length_take]; omega
          have hfl2 : ((List.range hs.length).filter fun x => decide (hs.getD x 0 = z) && !L.contains x).length ≤ 16 := by
            refine Nat.le_trans (List.length_filter_le _ _) ?_
            rw [List.length_range]; omega
          refine ⟨_, rfl, by rw [List.length_map, List.length_map]; omega, by omega, [_, _], rfl, rfl, some (.dat (dord L)), ?_⟩
          have es : ordS92 hs ((ords92 hs c).take (c2 + 1)) z = ordS92 hs ((ords92 hs c).take c2) z ++ (ordN92 hs z L).map fun x => L ++ [x] := by
            rw [List.take_add_one, hL, ordS92, ordS92, List.flatMap_append, Option.toList_some, List.flatMap_singleton]
          rw [es, List.map_append, List.map_map]
          rfl
      · obtain ⟨y4, rfl⟩ := hR2
        rw [List.length_map, List.take_length]
        walk_at "ro"
        refine s_freeze (i := 3) rfl ?_
        walk_at "ro"
        walk_at "ev"
        rw [← ords92_step hz]
        exact ⟨by omega, [_, _, _, _], rfl, rfl, _, _, _, rfl⟩
    · obtain ⟨x2, x3, x4, rfl⟩ := hR
      walk_at "ro"
      refine s_next ?_
      walk_at "ev"
      rw [dints_length]

theorem ok_is_within {f : Addr} {fd : FuncData} (F : Fun K "is_within" "is_within" s_is_within f fd)
    {f_is_whole : Addr} {fd_is_whole : FuncData} (F_is_whole : Fun K "is_whole" "is_whole" s_is_whole f_is_whole fd_is_whole)
    (G_is_whole : FnOk P w K mg base CX0 1 f_is_whole fd_is_whole ["thing"] (SpP K preWhole fWhole))
    (g_is_whole : mg "is_whole" = some (.ref f_is_whole)) :
    FnOk P w K mg base CX0 2 f fd ["thing", "least", "most"] (SpP K preWithin fWithin) := by
  refine F.ok sc_is_within (fun vs H Q E h => ?len) (fun cdv A outer s H vs Q E hr h => ⟨_, (pss_one (ps_ret (pe_and (pe_call G_is_whole (hr.mono (by decide)) (by rfl) g_is_whole F_is_whole.kp (bi_is_whole F_is_whole) .nil pass0 (pa_cons (pv 0) pa_nil)) (pe_one (pe_chain op_le op_le (pv 1) (pv 0) (pv 2)))))), ?r⟩)
  case len =>
    obtain ⟨B, ds, _, is, ⟨d, a, b, rfl, _⟩, _⟩ := h
    exact is.length
  case r =>
    refine body_P h fun ds hp hl => ?_
    obtain ⟨d, a, b, rfl, ho⟩ := hp
    refine s_ret (e_andV (e_callP (a_cons (e_var rfl (a_nil ⟨⟨d, rfl, ho⟩, _, rfl, ?_⟩)))))
    clear hl
    cases d <;> first | (cases ho; done) | (exact rfl) | skip
    rename_i i
    refine e_chain (e_var rfl (e_var rfl ⟨_, _, rfl, rfl, ?_⟩))
    show if decide (a ≤ i) = true then _ else _
    cases e : decide (a ≤ i) with
    | false => show D.bl false = .bl (decide (a ≤ i) && decide (i ≤ b)); rw [e]; rfl
    | true =>
      refine e_var rfl ⟨_, rfl, ?_⟩
      show D.bl (decide (i ≤ b)) = .bl (decide (a ≤ i) && decide (i ≤ b))
      rw [e]; rfl

theorem ok_common_multiple {f : Addr} {fd : FuncData} (F : Fun K "common_multiple" "common_multiple" s_common_multiple f fd)
    {f_common_divisor : Addr} {fd_common_divisor : FuncData} (F_common_divisor : Fun K "common_divisor" "common_divisor" s_common_divisor f_common_divisor fd_common_divisor)
    (G_common_divisor : FnOk P w K mg base CX0 1 f_common_divisor fd_common_divisor ["one", "other"] (SpP K preCd26 fCd26))
    (g_common_divisor : mg "common_divisor" = some (.ref f_common_divisor)) :
    FnOk P w K mg base CX0 2 f fd ["numbers"] (SpP K preCm26 fCm26) := by
  refine F.ok sc_common_multiple (fun vs H Q E h => ?len) (fun cdv A outer s H vs Q E hr h => ⟨_, (pss_cons (ps_set (i := 1) sc_common_multiple.nd rfl (by first | exact Or.inl rfl | exact Or.inr rfl) pe_int)
      (pss_cons (ps_for PassesOwn.never rfl (pi_list (pv 0)) (pg_name (i := 2) sc_common_multiple.nd rfl (by first | exact Or.inl rfl | exact Or.inr rfl)) (pss_one (ps_aug (i := 1) sc_common_multiple.nd rfl (by first | exact Or.inl rfl | exact Or.inr rfl) (pe_op op_fdiv (pv 2) (pe_call G_common_divisor (hr.mono (by decide)) (by rfl) g_common_divisor F_common_divisor.kp (bi_common_divisor F_common_divisor) .nil pass0 (pa_cons (pv 1) (pa_cons (pv 2) pa_nil)))) iop_mul)))
      (pss_one (ps_ret (pv 1))))), ?r⟩)
  case len =>
    obtain ⟨B, ds, _, is, ⟨L, rfl, _⟩, _⟩ := h
    exact is.length
  case r =>
    refine body_P h fun ds hp hl => ?_
    obtain ⟨L, rfl, hL⟩ := hp
    rw [fCm26_is]
    walk_at "body"
    refine s_seq (s_asg (e_int ?_))
    refine s_seq (s_forLw ?_)
    walk_at "ev"
    refine ⟨0, [1, 2], fun c xs => ∃ x2, xs = [some (.dat (.int (lcmL (L.take c)))), x2], [_, _], rfl, rfl, ⟨_, rfl⟩, fun c n d xs hd hn hx hI => ?_, fun n xs hn hx hI => ?_⟩
    · obtain ⟨x2, rfl⟩ := hI
      rw [dnats, List.getElem?_map, Option.map_eq_some_iff] at hd
      obtain ⟨k, hk, rfl⟩ := hd
      have hk0 := hL k (List.mem_of_getElem? hk)
      have hm : lcmL (L.take c) ∣ 720720 := lcmL_dvd _ fun x hx => (hL x (List.mem_of_mem_take hx)).2
      have hm1 := Nat.le_of_dvd (by omega) hm
      have hm2 := Nat.le_of_dvd (by omega) hk0.2
      have hg := Nat.gcd_pos_of_pos_right (lcmL (L.take c)) hk0.1
      have hg2 := Nat.le_of_dvd hk0.1 (Nat.gcd_dvd_right (lcmL (L.take c)) k)
      have hml := lcm_mul26 (lcmL (L.take c)) k
      have htk : L.take (c + 1) = L.take c ++ [k] := by rw [List.take_add_one, hk]; rfl
      have hd2 := Nat.div_le_self k (Nat.gcd (lcmL (L.take c)) k)
      walk_at "ro"
      refine s_aug rfl ?_
      walk_at "ev"
      refine ⟨⟨_, _, rfl⟩, ?_⟩
      rw [fCd26_is]
      refine v_I (show CDiv _ _ by unfold CDiv; omega) ?_
      refine v_I (show CMul _ _ by unfold CMul; omega) ?_
      have e : ((lcmL (L.take c) : Nat) : Int) * ((k : Nat) / (Nat.gcd (lcmL (L.take c)) k : Nat) : Int) = ((lcmL (L.take (c + 1)) : Nat) : Int) := by
        rw [htk, lcmL_snoc, ← hml, Int.natCast_mul, Int.natCast_ediv]
      rw [e]
      exact ⟨by omega, [_, _], rfl, rfl, _, rfl⟩
    · obtain ⟨x2, rfl⟩ := hI
      walk_at "ro"
      walk_at "ev"
      rw [dnats, List.length_map, List.take_length]

theorem ok_tie_count {f : Addr} {fd : FuncData} (F : Fun K "tie_count" "tie_count" s_tie_count f fd)
    {f_product : Addr} {fd_product : FuncData} (F_product : Fun K "product" "product" s_product f_product fd_product)
    (G_product : FnOk P w K mg base CX0 1 f_product fd_product ["numbers"] (SpP K preProd8 fProd8))
    (g_product : mg "product" = some (.ref f_product)) :
    FnOk P w K mg base CX0 2 f fd ["measure"] (SpP K preMs1 fTc8) := by
  refine F.ok sc_tie_count (fun vs H Q E h => ?len) (fun cdv A outer s H vs Q E hr h => ⟨_, (pss_one (ps_ret (pe_call G_product (hr.mono (by decide)) (by rfl) g_product F_product.kp (bi_product F_product) .nil pass0 (pa_cons (pv 0) pa_nil)))), ?r⟩)
  case len =>
    obtain ⟨B, ds, _, is, ⟨ms, rfl, _⟩, _⟩ := h
    exact is.length
  case r =>
    refine body_P h fun ds hp hl => ?_
    obtain ⟨ms, rfl, hM⟩ := hp
    walk_at "body"
    walk_at "ev"
    refine ⟨⟨ms, .inr rfl, fun n q => by have := hM.2.2 n q; omega⟩, ?_⟩
    rfl

theorem ok_tie_order {f : Addr} {fd : FuncData} (F : Fun K "tie_order" "tie_order" s_tie_order f fd)
    {f_nought : Addr} {fd_nought : FuncData} (F_nought : Fun K "nought" "nought" s_nought f_nought fd_nought)
    (G_nought : FnOk P w K mg base CX0 1 f_nought fd_nought ["measure"] (SpP K preMs1 fNou))
    (g_nought : mg "nought" = some (.ref f_nought))
    {f_tie_times : Addr} {fd_tie_times : FuncData} (F_tie_times : Fun K "tie_times" "tie_times" s_tie_times f_tie_times fd_tie_times)
    (G_tie_times : FnOk P w K mg base CX0 1 f_tie_times fd_tie_times ["measure", "tie", "times"] (SpP K preTimes fTimes))
    (g_tie_times : mg "tie_times" = some (.ref f_tie_times)) :
    FnOk P w K mg base CX0 2 f fd ["measure", "tie"] (SpP K preOrd fOrd) := by
  refine F.ok sc_tie_order (fun vs H Q E h => ?len) (fun cdv A outer s H vs Q E hr h => ⟨_, (pss_cons (ps_set (i := 2) sc_tie_order.nd rfl (by first | exact Or.inl rfl | exact Or.inr rfl) pe_int)
      (pss_cons (ps_while PassesOwn.never (pt_cmpR (show OpR _ _ (rNeD K) from op_neD hr.units) (pe_call G_tie_times (hr.mono (by decide)) (by rfl) g_tie_times F_tie_times.kp (bi_tie_times F_tie_times) .nil pass0 (pa_cons (pv 0) (pa_cons (pv 1) (pa_cons (pv 2) pa_nil)))) (pe_call G_nought (hr.mono (by decide)) (by rfl) g_nought F_nought.kp (bi_nought F_nought) .nil pass0 (pa_cons (pv 0) pa_nil)) (nomark _)) (pss_one (ps_aug (i := 2) sc_tie_order.nd rfl (by first | exact Or.inl rfl | exact Or.inr rfl) pe_int iop_add)))
      (pss_one (ps_ret (pv 2))))), ?r⟩)
  case len =>
    obtain ⟨B, ds, _, is, ⟨ms, t, rfl, _⟩, _⟩ := h
    exact is.length
  case r =>
    refine body_P h fun ds hp hl => ?_
    obtain ⟨ms, t, rfl, hM, ht⟩ := hp
    walk_at "body"
    walk_at "ev"
    refine s_while (q0 := 59) (I := fun q _ ρ' => ∃ k : Nat, 1 ≤ k ∧ k + q = 60 ∧ (∀ j, 1 ≤ j → j < k → zeroAt ms t j = false) ∧ ρ' = [some (.dat (.tup (dints ms))), some (.dat (.tup (dints t))), some (.dat (.int k))]) ⟨1, by omega, by omega, fun j a b => by omega, rfl⟩ ?_
    intro q n ρ' hI
    obtain ⟨k, h1, h2, h3, rfl⟩ := hI
    have eT : fTimes [.tup (dints ms), .tup (dints t), .int k] = .tup (dints (timesF ms t k)) := by
      rw [fTimes, uints_dints, uints_dints]
    have e0 : fNou [.tup (dints ms)] = .tup (dints (List.replicate ms.length 0)) := by
      rw [fNou, dints_length]
    have n1 := (times_tie hM ht k).num hM
    have n2 := (rep_tie hM).num hM
    walk_at "ev"
    refine ⟨⟨ms, t, k, rfl, hM, ht⟩, ?_⟩
    rw [eT]
    walk_at "ev"
    try (refine ⟨⟨ms, rfl, hM⟩, ?_⟩; rw [e0])
    refine v_neD (n1.eqs (by omega)) (n2.eqs (by omega)) ?_
    cases ez : zeroAt ms t k with
    | true =>
      have : timesF ms t k = List.replicate ms.length 0 := by
        unfold zeroAt at ez
        exact beq_iff_eq.mp ez
      rw [this, n2.same]
      refine ⟨_, rfl, ?_⟩
      refine s_ret (e_var rfl ?_)
      show D.int (k : Int) = .int (ordF _ _)
      rw [uints_dints, uints_dints, ordF, ordFrom_is h1 (by omega) ez h3]
    | false =>
      have : timesF ms t k ≠ List.replicate ms.length 0 := by
        unfold zeroAt at ez
        intro z
        rw [z] at ez
        simp at ez
      have hk : k ≠ 60 := fun z => by
        subst z
        rw [zero60 hM ht] at ez
        cases ez
      rw [n1.other n2 (fun z => this (by
        have := congrArg (fun d => match d with | D.tup xs => uints xs | _ => []) z
        simpa [uints_dints] using this))]
      refine ⟨_, rfl, ?_⟩
      refine s_aug rfl (e_int (v_I0 ?_))
      refine ⟨q - 1, by omega, k + 1, by omega, by omega, fun j a b => ?_, ?_⟩
      · by_cases e : j = k
        · subst e; exact ez
        · exact h3 j a (by omega)
      · rfl

theorem ok_even_table {f : Addr} {fd : FuncData} (F : Fun K "even_table" "even_table" s_even_table f fd)
    {f_nought : Addr} {fd_nought : FuncData} (F_nought : Fun K "nought" "nought" s_nought f_nought fd_nought)
    (G_nought : FnOk P w K mg base CX0 1 f_nought fd_nought ["measure"] (SpP K preMs1 fNou))
    (g_nought : mg "nought" = some (.ref f_nought))
    {f_Frame_stem_count : Addr} {fd_Frame_stem_count : FuncData} (F_Frame_stem_count : Fun K "stem_count" "Frame.stem_count" s_Frame_stem_count f_Frame_stem_count fd_Frame_stem_count)
    (G_Frame_stem_count : FnOk P w K mg base CX0 1 f_Frame_stem_count fd_Frame_stem_count ["self"] (SpP K (preStem cFrame) fStem))
    (k_Frame : Own2 K cFrame "measure" "hues")
    (e_Frame_stem_count : Meth K cFrame "stem_count" f_Frame_stem_count)
    (m_range : mg "range" = none)
    (m_tuple : mg "tuple" = none) :
    FnOk P w K mg base CX0 2 f fd ["frame"] (SpP K (preFr cFrame) fEv) := by
  refine F.ok sc_even_table (fun vs H Q E h => ?len) (fun cdv A outer s H vs Q E hr h => ⟨_, (pss_one (ps_ret (pe_callTy (show CallR _ _ (rTupC K) from call_tupC) (by rfl) m_tuple (by decide +kernel) (pa_cons (pe_lc (own := [("stem", 1)]) (g := gName 1) (tt := tYes) rfl sc_even_table.nd (pi_range1 rfl m_range (pa_cons (pe_meth0 (pv 0) k_Frame.cls e_Frame_stem_count G_Frame_stem_count (hr.mono (by decide)) (bi_Frame_stem_count F_Frame_stem_count) .nil pass0) pa_nil)) (blkOk_by (own := [("stem", 1)]) (N := ["frame", "stem"]) (sc := defScope s_even_table) (by decide +kernel)) (fun _ _ _ _ _ => (pg_name (i := 1) sc_even_table.nd rfl (by first | exact Or.inl rfl | exact Or.inr rfl))) (fun _ _ _ _ _ => pts_nil) (fun _ _ _ _ _ => (pe_op (show OpR _ _ (rRepA K) from op_repA) (pe_tupC (pa_cons (pe_call G_nought (hr.mono (by decide)) (by rfl) g_nought F_nought.kp (bi_nought F_nought) .nil pass0 (pa_cons (pe_fldK (K := K) rfl (pv 0) rfl) pa_nil)) pa_nil)) (pv 1)))) pa_nil)))), ?r⟩)
  case len =>
    obtain ⟨B, ds, _, is, ⟨ms, hs, rfl, _⟩, _⟩ := h
    exact is.length
  case r =>
    refine body_P h fun ds hp hl => ?_
    obtain ⟨ms, hs, rfl, hM, hn⟩ := hp
    rw [fEv_is, const_dtab]
    walk_at "body"
    walk_at "ev"
    refine e_lcRf rfl ?_
    walk_at "ev"
    refine ⟨hs.length, fun i => .tup (List.replicate i (.tup (dints (zt ms)))), rfl, by omega, fun i hi => ?_, ?_⟩
    · walk_at "ev"
      refine v_repT (by omega) (by omega) (by simp) ?_
      rw [List.flatten_replicate_singleton, Int.toNat_natCast]
      exact ⟨rfl, rfl⟩
    · walk_at "ev"
      rfl

theorem ok_lead_place {f : Addr} {fd : FuncData} (F : Fun K "lead_place" "lead_place" s_lead_place f fd)
    {f_nought : Addr} {fd_nought : FuncData} (F_nought : Fun K "nought" "nought" s_nought f_nought fd_nought)
    (G_nought : FnOk P w K mg base CX0 1 f_nought fd_nought ["measure"] (SpP K preMs1 fNou))
    (g_nought : mg "nought" = some (.ref f_nought))
    {f_tie_sum : Addr} {fd_tie_sum : FuncData} (F_tie_sum : Fun K "tie_sum" "tie_sum" s_tie_sum f_tie_sum fd_tie_sum)
    (G_tie_sum : FnOk P w K mg base CX0 1 f_tie_sum fd_tie_sum ["measure", "one", "other"] (SpP K preTT fSum))
    (g_tie_sum : mg "tie_sum" = some (.ref f_tie_sum))
    {f_table_tie : Addr} {fd_table_tie : FuncData} (F_table_tie : Fun K "table_tie" "table_tie" s_table_tie f_table_tie fd_table_tie)
    (G_table_tie : FnOk P w K mg base CX0 1 f_table_tie fd_table_tie ["table", "one", "other"] (SpP K preTab fTab))
    (g_table_tie : mg "table_tie" = some (.ref f_table_tie))
    {f_Frame_stem_count : Addr} {fd_Frame_stem_count : FuncData} (F_Frame_stem_count : Fun K "stem_count" "Frame.stem_count" s_Frame_stem_count f_Frame_stem_count fd_Frame_stem_count)
    (G_Frame_stem_count : FnOk P w K mg base CX0 1 f_Frame_stem_count fd_Frame_stem_count ["self"] (SpP K (preStem cFrame) fStem))
    (k_Frame : Own2 K cFrame "measure" "hues")
    (e_Frame_stem_count : Meth K cFrame "stem_count" f_Frame_stem_count)
    (m_enumerate : mg "enumerate" = none)
    (m_tuple : mg "tuple" = none) :
    FnOk P w K mg base CX0 2 f fd ["frame", "turning", "place"] (SpP K (preLp cFrame) fLp) := by
  refine F.ok sc_lead_place (fun vs H Q E h => ?len) (fun cdv A outer s H vs Q E hr h => ⟨_, (pss_cons (ps_asg (pv 1) (pg_tup rfl (pgs_cons (pg_name (i := 4) sc_lead_place.nd rfl (by first | exact Or.inl rfl | exact Or.inr rfl)) (pgs_cons (pg_name (i := 5) sc_lead_place.nd rfl (by first | exact Or.inl rfl | exact Or.inr rfl)) pgs_nil))))
      (pss_cons (ps_asg (pv 2) (pg_tup rfl (pgs_cons (pg_name (i := 6) sc_lead_place.nd rfl (by first | exact Or.inl rfl | exact Or.inr rfl)) (pgs_cons (pg_name (i := 7) sc_lead_place.nd rfl (by first | exact Or.inl rfl | exact Or.inr rfl)) pgs_nil))))
      (pss_cons (ps_set (i := 3) sc_lead_place.nd rfl (by first | exact Or.inl rfl | exact Or.inr rfl) (pe_op op_rep (pe_lst (pa_cons (pe_call G_nought (hr.mono (by decide)) (by rfl) g_nought F_nought.kp (bi_nought F_nought) .nil pass0 (pa_cons (pe_fldK (K := K) rfl (pv 0) rfl) pa_nil)) pa_nil)) (pe_meth0 (pv 0) k_Frame.cls e_Frame_stem_count G_Frame_stem_count (hr.mono (by decide)) (bi_Frame_stem_count F_Frame_stem_count) .nil pass0)))
      (pss_cons (ps_for PassesOwn.never rfl (pi_enT (by rfl) m_enumerate (pa_cons (pv 7) pa_nil)) (pg_tup rfl (pgs_cons (pg_name (i := 8) sc_lead_place.nd rfl (by first | exact Or.inl rfl | exact Or.inr rfl)) (pgs_cons (pg_name (i := 9) sc_lead_place.nd rfl (by first | exact Or.inl rfl | exact Or.inr rfl)) pgs_nil))) (pss_one (ps_if (pt_cmpR op_ne (pv 8) (pv 6) (nomark _)) (pss_one (ps_asg (pe_call G_tie_sum (hr.mono (by decide)) (by rfl) g_tie_sum F_tie_sum.kp (bi_tie_sum F_tie_sum) .nil pass0 (pa_cons (pe_fldK (K := K) rfl (pv 0) rfl) (pa_cons (pv 9) (pa_cons (pe_call G_table_tie (hr.mono (by decide)) (by rfl) g_table_tie F_table_tie.kp (bi_table_tie F_table_tie) .nil pass0 (pa_cons (pv 5) (pa_cons (pv 6) (pa_cons (pv 8) pa_nil)))) pa_nil)))) (pg_sub (pv 3) (pe_ix (show IxR _ (rIxT K) from ix_tup) (pv 4) (pv 8) (fun _ _ => rfl)) set_list))) pss_nil)))
      (pss_one (ps_ret (pe_tupC (pa_cons (pe_ix (show IxR _ (rIxT K) from ix_tup) (pv 4) (pv 6) (fun _ _ => rfl)) (pa_cons (pe_callTy (show CallR _ _ (rTupC K) from call_tupC) (by rfl) m_tuple (by decide +kernel) (pa_cons (pv 3) pa_nil)) pa_nil))))))))), ?r⟩)
  case len =>
    obtain ⟨B, ds, _, is, ⟨ms, hs, t, p, rfl, _⟩, _⟩ := h
    exact is.length
  case r =>
    refine body_P h fun ds hp hl => ?_
    obtain ⟨ms, hs, t, ⟨a, S⟩, rfl, hM, hn, ht, hP⟩ := hp
    have hl2 := ht.lead.len
    have hl3 := hP.len
    simp only at hP hl3
    obtain ⟨ca, hca, _⟩ := ht.lead.at hP.lt
    have hca' := dnats_get hca
    rw [fLp_is]
    walk_at "body"
    walk_at "ev"
    refine ⟨by omega, by simp, ?_⟩
    walk_at "ro"
    refine s_seq (s_forEw (i := 8) (j := 9) ?_)
    walk_at "ev"
    refine ⟨0, [3, 8, 9], fun i xs => ∃ x y, xs = [some (.own ((ledF ms t.1 t.2 a S i).map fun t => .tup (dints t))), x, y], [_, _, _], rfl, rfl, ⟨none, none, ?_⟩, fun i n d xs hd hn2 hx hR => ?_, fun n xs hn2 hx hR => ?_⟩
    · rw [List.flatten_replicate_singleton, ledF]
      show _ = [some (Sl.own ((List.replicate t.1.length (zt ms)).map _)), _, _]
      rw [List.map_replicate, hl2]
    · obtain ⟨x, z, rfl⟩ := hR
      walk_at "ro"
      have hi : i < hs.length := by
        have := (List.getElem?_eq_some_iff.mp hd).1
        rw [List.length_map] at this
        omega
      obtain ⟨c, hc, hc2⟩ := ht.lead.at hi
      have hc' := dnats_get hc
      obtain ⟨y, ey⟩ := says_get (c := i) hl3 hi
      rw [dsays_get ey] at hd
      cases hd
      have hy := hP.tie y (List.mem_of_getElem? ey)
      walk_at "ev"
      by_cases e : (i : Int) = a
      · rw [decide_eq_true e]
        walk_at "ev"
        refine ⟨[_, _, _], rfl, rfl, some (.dat (.int i)), some (.dat (.tup (dints y))), ?_⟩
        rw [ledF_succ, if_pos (by omega)]
      · rw [decide_eq_false e]
        have hT := tabT_tie ht.tab hP.lt hi (by omega)
        walk_at "ev"
        refine s_setOwn (i := 3) rfl ?_
        walk_at "ev"
        refine ⟨pTab ht.tab hP.lt hi (by omega), ?_⟩
        rw [fTab_is ht.tab hP.lt hi (by omega)]
        walk_at "ev"
        refine ⟨by rw [List.length_map, ledF_len, hl2]; exact hc2, by omega, [_, _, _], rfl, rfl, some (.dat (.int i)), some (.dat (.tup (dints y))), ?_⟩
        rw [ledF_succ, if_neg (by omega), natD_of hc, getD_of ey, List.map_set]
    · obtain ⟨x, y, rfl⟩ := hR
      walk_at "ro"
      refine s_freeze (i := 3) rfl ?_
      walk_at "ro"
      walk_at "ev"
      rw [ledP, natD_of hca, List.length_map]

theorem ok_moves_behind {f : Addr} {fd : FuncData} (F : Fun K "moves_behind" "moves_behind" s_moves_behind f fd)
    {f_tie_sum : Addr} {fd_tie_sum : FuncData} (F_tie_sum : Fun K "tie_sum" "tie_sum" s_tie_sum f_tie_sum fd_tie_sum)
    (G_tie_sum : FnOk P w K mg base CX0 1 f_tie_sum fd_tie_sum ["measure", "one", "other"] (SpP K preTT fSum))
    (g_tie_sum : mg "tie_sum" = some (.ref f_tie_sum))
    {f_table_tie : Addr} {fd_table_tie : FuncData} (F_table_tie : Fun K "table_tie" "table_tie" s_table_tie f_table_tie fd_table_tie)
    (G_table_tie : FnOk P w K mg base CX0 1 f_table_tie fd_table_tie ["table", "one", "other"] (SpP K preTab fTab))
    (g_table_tie : mg "table_tie" = some (.ref f_table_tie))
    (k_Frame : Own2 K cFrame "measure" "hues")
    (m_range : mg "range" = none)
    (m_tuple : mg "tuple" = none) :
    FnOk P w K mg base CX0 2 f fd ["frame", "first", "second", "stem"] (SpP K (preMb cFrame) fMb) := by
  refine F.ok sc_moves_behind (fun vs H Q E h => ?len) (fun cdv A outer s H vs Q E hr h => ⟨_, (pss_cons (ps_asg (pv 1) (pg_tup rfl (pgs_cons (pg_name (i := 4) sc_moves_behind.nd rfl (by first | exact Or.inl rfl | exact Or.inr rfl)) (pgs_cons (pg_name (i := 5) sc_moves_behind.nd rfl (by first | exact Or.inl rfl | exact Or.inr rfl)) pgs_nil))))
      (pss_one (ps_ret (pe_callTy (show CallR _ _ (rTupC K) from call_tupC) (by rfl) m_tuple (by decide +kernel) (pa_cons (pe_lc (own := [("lesser", 6)]) (g := gName 6) (tt := tYes) rfl sc_moves_behind.nd (pi_range1 rfl m_range (pa_cons (pv 3) pa_nil)) (blkOk_by (own := [("lesser", 6)]) (N := ["frame", "first", "second", "stem", "leads", "moves", "lesser"]) (sc := defScope s_moves_behind) (by decide +kernel)) (fun _ _ _ _ _ => (pg_name (i := 6) sc_moves_behind.nd rfl (by first | exact Or.inl rfl | exact Or.inr rfl))) (fun _ _ _ _ _ => pts_nil) (fun _ _ _ _ _ => (pe_call G_tie_sum (hr.mono (by decide)) (by rfl) g_tie_sum F_tie_sum.kp (bi_tie_sum F_tie_sum) .nil pass0 (pa_cons (pe_fldK (K := K) rfl (pv 0) rfl) (pa_cons (pe_ix (show IxR _ (rIxT K) from ix_tup) (pe_ix (show IxR _ (rIxT K) from ix_tup) (pv 5) (pv 3) (fun _ _ => rfl)) (pv 6) (fun _ _ => rfl)) (pa_cons (pe_call G_table_tie (hr.mono (by decide)) (by rfl) g_table_tie F_table_tie.kp (bi_table_tie F_table_tie) .nil pass0 (pa_cons (pe_ix (show IxR _ (rIxT K) from ix_tup) (pv 2) pe_int (fun _ _ => rfl)) (pa_cons (pe_ix (show IxR _ (rIxT K) from ix_tup) (pv 4) (pv 3) (fun _ _ => rfl)) (pa_cons (pe_ix (show IxR _ (rIxT K) from ix_tup) (pv 4) (pv 6) (fun _ _ => rfl)) pa_nil)))) pa_nil)))))) pa_nil))))), ?r⟩)
  case len =>
    obtain ⟨B, ds, _, is, ⟨ms, hs, t, u, i, rfl, _⟩, _⟩ := h
    exact is.length
  case r =>
    refine body_P h fun ds hp hl => ?_
    obtain ⟨ms, hs, t, u, i, rfl, hM, hn, ht, hu, hi⟩ := hp
    obtain ⟨c, hc, hc2⟩ := ht.lead.at hi
    have hc' := dnats_get hc
    rw [fMb_is, behRow, dsays, List.map_map]
    walk_at "body"
    walk_at "ev"
    refine e_lcRf rfl ?_
    walk_at "ev"
    refine ⟨i, fun j => .tup (dints (sumF ms (tt t.2 i j) (tabT u.2 (t.1.getD i 0) (t.1.getD j 0)))), rfl, by omega, fun j hj => ?_, ?_⟩
    · obtain ⟨d, hd, hd2⟩ := ht.lead.at (b := j) (by omega)
      have hd' := dnats_get hd
      obtain ⟨r, x, e1, e2, hx⟩ := ht.tab.at hi hj
      have e1' := row_get e1
      have e2' := dsays_get e2
      have hcd : c ≠ d := ht.lead.ne hc hd (by omega)
      have hT := tabT_tie hu.tab hc2 hd2 hcd
      walk_at "ev"
      refine ⟨pTab hu.tab hc2 hd2 hcd, ?_⟩
      rw [fTab_is hu.tab hc2 hd2 hcd]
      walk_at "ev"
      dsimp only
      rw [natD_of hc, natD_of hd, tt_of e1 e2]
    · walk_at "ev"
      rfl

theorem ok_is_even {f : Addr} {fd : FuncData} (F : Fun K "is_even" "is_even" s_is_even f fd)
    {f_nought : Addr} {fd_nought : FuncData} (F_nought : Fun K "nought" "nought" s_nought f_nought fd_nought)
    (G_nought : FnOk P w K mg base CX0 1 f_nought fd_nought ["measure"] (SpP K preMs1 fNou))
    (g_nought : mg "nought" = some (.ref f_nought))
    {f_tie_sum : Addr} {fd_tie_sum : FuncData} (F_tie_sum : Fun K "tie_sum" "tie_sum" s_tie_sum f_tie_sum fd_tie_sum)
    (G_tie_sum : FnOk P w K mg base CX0 1 f_tie_sum fd_tie_sum ["measure", "one", "other"] (SpP K preTT fSum))
    (g_tie_sum : mg "tie_sum" = some (.ref f_tie_sum))
    {f_table_tie : Addr} {fd_table_tie : FuncData} (F_table_tie : Fun K "table_tie" "table_tie" s_table_tie f_table_tie fd_table_tie)
    (G_table_tie : FnOk P w K mg base CX0 1 f_table_tie fd_table_tie ["table", "one", "other"] (SpP K preTab fTab))
    (g_table_tie : mg "table_tie" = some (.ref f_table_tie))
    (k_Frame : Own2 K cFrame "measure" "hues") :
    FnOk P w K mg base CX0 2 f fd ["frame", "moves", "stem", "ring"] (SpP K (preEv31 cFrame) fEv31) := by
  refine F.ok sc_is_even (fun vs H Q E h => ?len) (fun cdv A outer s H vs Q E hr h => ⟨_, (pss_cons (ps_set (i := 4) sc_is_even.nd rfl (by first | exact Or.inl rfl | exact Or.inr rfl) (pe_call G_nought (hr.mono (by decide)) (by rfl) g_nought F_nought.kp (bi_nought F_nought) .nil pass0 (pa_cons (pe_fldK (K := K) rfl (pv 0) rfl) pa_nil)))
      (pss_cons (ps_for PassesOwn.never rfl (pi_list (pv 3)) (pg_name (i := 5) sc_is_even.nd rfl (by first | exact Or.inl rfl | exact Or.inr rfl)) (pss_one (ps_set (i := 4) sc_is_even.nd rfl (by first | exact Or.inl rfl | exact Or.inr rfl) (pe_call G_tie_sum (hr.mono (by decide)) (by rfl) g_tie_sum F_tie_sum.kp (bi_tie_sum F_tie_sum) .nil pass0 (pa_cons (pe_fldK (K := K) rfl (pv 0) rfl) (pa_cons (pv 4) (pa_cons (pe_call G_table_tie (hr.mono (by decide)) (by rfl) g_table_tie F_table_tie.kp (bi_table_tie F_table_tie) .nil pass0 (pa_cons (pv 1) (pa_cons (pv 2) (pa_cons (pv 5) pa_nil)))) pa_nil)))))))
      (pss_one (ps_ret (pe_cmpR (show OpR _ _ (rEqD K) from op_eqD hr.units) (pv 4) (pe_call G_nought (hr.mono (by decide)) (by rfl) g_nought F_nought.kp (bi_nought F_nought) .nil pass0 (pa_cons (pe_fldK (K := K) rfl (pv 0) rfl) pa_nil)) (nomark _)))))), ?r⟩)
  case len =>
    obtain ⟨B, ds, _, is, ⟨ms, hs, T, i, R, rfl, _⟩, _⟩ := h
    exact is.length
  case r =>
    refine body_P h fun ds hp hl => ?_
    obtain ⟨ms, hs, T, i, R, rfl, hM, hT, hi, h16, hR⟩ := hp
    rw [fEv31_is]
    have hz := rep_tie hM
    walk_at "body"
    walk_at "ev"
    refine s_forLw ?_
    walk_at "ev"
    refine ⟨0, [4, 5], fun c xs => ∃ (x5 : Option Sl), xs = [some (.dat (.tup (dints (mov31 ms T i (R.take c))))), x5] ∧ TieP ms (mov31 ms T i (R.take c)), [_, _], rfl, rfl, ⟨none, rfl, hz⟩, fun c n d xs hd hn hx hI => ?_, fun n xs hn hx hI => ?_⟩
    · obtain ⟨x5, rfl, hA⟩ := hI
      obtain ⟨o, ho, rfl⟩ : ∃ o : Nat, R[c]? = some o ∧ d = .int o := by
        rw [dnats, List.getElem?_map, Option.map_eq_some_iff] at hd
        obtain ⟨y, h1, h2⟩ := hd
        exact ⟨y, h1, h2.symm⟩
      obtain ⟨ho1, ho2⟩ := hR o (List.mem_of_getElem? ho)
      have hB := tabT_tie hT hi ho1 ho2
      have etk : R.take (c + 1) = R.take c ++ [o] := by rw [List.take_add_one, ho]; rfl
      walk_at "ro"
      walk_at "ev"
      refine ⟨pTab hT hi ho1 ho2, ?_⟩
      rw [fTab_is hT hi ho1 ho2]
      refine a_nil ⟨⟨ms, _, _, rfl, hM, hA, hB⟩, ?_⟩
      rw [fSum_is]
      refine ⟨by omega, [_, _], rfl, rfl, some (.dat (.int (o : Nat))), ?_, ?_⟩
      · rw [etk, mov_snoc31]
      · rw [etk, mov_snoc31]
        exact sum_tie hM hA hB
    · obtain ⟨x5, rfl, hA⟩ := hI
      rw [dnats, List.length_map, List.take_length] at hA ⊢
      walk_at "ro"
      walk_at "ev"
      have nA := hA.num hM
      have nZ := hz.num hM
      refine v_eqD (nA.eqs (by omega)) (nZ.eqs (by omega)) ?_
      unfold even31
      by_cases e : mov31 ms T i R = List.replicate ms.length 0
      · rw [e, decide_eq_true rfl, nZ.same]
      · rw [decide_eq_false e, nA.other nZ fun w => e (tup_inj w)]

theorem ok__law_of {f : Addr} {fd : FuncData} (F : Fun K "_law_of" "_law_of" s__law_of f fd)
    {f__law_take : Addr} {fd__law_take : FuncData} (F__law_take : Fun K "_law_take" "_law_take" s__law_take f__law_take fd__law_take)
    (G__law_take : FnOk P w K mg base CX0 1 f__law_take fd__law_take ["_law_hand_here", "_law_many"] (SpH K preTake psiTake))
    (g__law_take : mg "_law_take" = some (.ref f__law_take))
    (m_len : mg "len" = none) :
    FnOk P w K mg base CX0 2 f fd ["_law_hand_here", "_law_some"] (SpOfV K) := by
  refine F.ok sc__law_of (fun vs H Q E h => ?len) (fun cdv A outer s H vs Q E hr h => ⟨_, (pss_one (ps_ret (pe_ix (show IxR _ (rIx K) from ix_seq) (pv 1) (pe_call G__law_take (hr.mono (by decide)) (by rfl) g__law_take F__law_take.kp (bi__law_take F__law_take) .nil pass0 (pa_cons (pv 0) (pa_cons (pe_callB (show CallR _ _ (rLenQ K) from call_len_seq) (by rfl) m_len (by decide +kernel) (pa_cons (pv 1) pa_nil)) pa_nil))) (fun _ _ => rfl)))), ?r⟩)
  case len =>
    obtain ⟨l, a, xs, B, m, rfl, _⟩ := h
    rfl
  case r =>
    obtain ⟨l, a, xs, B, m, rfl, sb, hh, hB, hsq, hal, hm, hne, hl, k⟩ := h
    refine ⟨_, rfl, _, rfl, _, rfl, a, xs, rfl, hsq, ?_⟩
    have hpos : 0 < xs.length := List.length_pos_iff.mpr hne
    refine ⟨l, [.int xs.length], B, [.int xs.length], m, rfl, sb, hh, hB, .cons (.int _) .nil, ⟨hm, _, rfl, by omega, takeB_of (by omega)⟩, fun v d m' B2 H2 h2 s1 s2 s3 s4 hψ iv => ?_⟩
    obtain ⟨h1, n, r, e1, rfl, r1, r2⟩ := hψ
    cases e1
    cases iv
    have hr : r.toNat < xs.length := by omega
    have e : atI xs r = some (xs[r.toNat]) := by
      have := L2.atI_nat (List.getElem?_eq_getElem hr)
      rwa [Int.toNat_of_nonneg r1] at this
    rcases sq_keep hal s3 hsq with q | q
    · exact .inl ⟨a, xs, r, _, rfl, rfl, q, e, k _ m' B2 H2 (List.getElem_mem hr) h1 h2 s1 s2 s3 s4⟩
    · exact .inr (.inl ⟨a, xs, r, _, rfl, rfl, q, e, k _ m' B2 H2 (List.getElem_mem hr) h1 h2 s1 s2 s3 s4⟩)

theorem ok__law_led {f : Addr} {fd : FuncData} (F : Fun K "_law_led" "_law_led" s__law_led f fd)
    {f__law_sum : Addr} {fd__law_sum : FuncData} (F__law_sum : Fun K "_law_sum" "_law_sum" s__law_sum f__law_sum fd__law_sum)
    (G__law_sum : FnOk P w K mg base CX0 1 f__law_sum fd__law_sum ["_law_scale", "_law_here", "_law_there"] (SpP K preTT fSum))
    (g__law_sum : mg "_law_sum" = some (.ref f__law_sum))
    {f__law_at : Addr} {fd__law_at : FuncData} (F__law_at : Fun K "_law_at" "_law_at" s__law_at f__law_at fd__law_at)
    (G__law_at : FnOk P w K mg base CX0 1 f__law_at fd__law_at ["_law_grid", "_law_at_here", "_law_to"] (SpP K preAt fAt))
    (g__law_at : mg "_law_at" = some (.ref f__law_at))
    (m_len : mg "len" = none)
    (m_range : mg "range" = none)
    (m_tuple : mg "tuple" = none) :
    FnOk P w K mg base CX0 2 f fd ["_law_scale", "_law_turn", "_law_spot"] (SpP K preLe fLe) := by
  refine F.ok sc__law_led (fun vs H Q E h => ?len) (fun cdv A outer s H vs Q E hr h => ⟨_, (pss_cons (ps_asg (pv 2) (pg_tup rfl (pgs_cons (pg_name (i := 5) sc__law_led.nd rfl (by first | exact Or.inl rfl | exact Or.inr rfl)) (pgs_cons (pg_name (i := 6) sc__law_led.nd rfl (by first | exact Or.inl rfl | exact Or.inr rfl)) pgs_nil))))
      (pss_cons (ps_set (i := 3) sc__law_led.nd rfl (by first | exact Or.inl rfl | exact Or.inr rfl) (pe_op op_rep (pe_lst (pa_cons (pe_op (show OpR _ _ (rRepA K) from op_repA) (pe_tupC (pa_cons pe_int pa_nil)) (pe_callB (show CallR _ _ (rLenQ K) from call_len_seq) (by rfl) m_len (by decide +kernel) (pa_cons (pv 0) pa_nil))) pa_nil)) (pe_callB (show CallR _ _ (rLenQ K) from call_len_seq) (by rfl) m_len (by decide +kernel) (pa_cons (pv 6) pa_nil))))
      (pss_cons (ps_for PassesOwn.never rfl (pi_range1 rfl m_range (pa_cons (pe_callB (show CallR _ _ (rLenQ K) from call_len_seq) (by rfl) m_len (by decide +kernel) (pa_cons (pv 6) pa_nil)) pa_nil)) (pg_name (i := 4) sc__law_led.nd rfl (by first | exact Or.inl rfl | exact Or.inr rfl)) (pss_one (ps_if (pt_cmpR op_ne (pv 4) (pv 5) (nomark _)) (pss_one (ps_asg (pe_call G__law_sum (hr.mono (by decide)) (by rfl) g__law_sum F__law_sum.kp (bi__law_sum F__law_sum) .nil pass0 (pa_cons (pv 0) (pa_cons (pe_ix (show IxR _ (rIxT K) from ix_tup) (pv 6) (pv 4) (fun _ _ => rfl)) (pa_cons (pe_call G__law_at (hr.mono (by decide)) (by rfl) g__law_at F__law_at.kp (bi__law_at F__law_at) .nil pass0 (pa_cons (pe_ix (show IxR _ (rIxT K) from ix_tup) (pv 1) pe_int (fun _ _ => rfl)) (pa_cons (pv 5) (pa_cons (pv 4) pa_nil)))) pa_nil)))) (pg_sub (pv 3) (pe_ix (show IxR _ (rIxT K) from ix_tup) (pe_ix (show IxR _ (rIxT K) from ix_tup) (pv 1) pe_int (fun _ _ => rfl)) (pv 4) (fun _ _ => rfl)) set_list))) pss_nil)))
      (pss_one (ps_ret (pe_tupC (pa_cons (pe_ix (show IxR _ (rIxT K) from ix_tup) (pe_ix (show IxR _ (rIxT K) from ix_tup) (pv 1) pe_int (fun _ _ => rfl)) (pv 5) (fun _ _ => rfl)) (pa_cons (pe_callTy (show CallR _ _ (rTupC K) from call_tupC) (by rfl) m_tuple (by decide +kernel) (pa_cons (pv 3) pa_nil)) pa_nil)))))))), ?r⟩)
  case len =>
    obtain ⟨B, ds, _, is, ⟨ms, hs, t, p, rfl, _⟩, _⟩ := h
    exact is.length
  case r =>
    refine body_P h fun ds hp hl => ?_
    obtain ⟨ms, hs, t, ⟨a, S⟩, rfl, hM, hn, ht, hP⟩ := hp
    have hl2 := ht.lead.len
    have hl3 := hP.len
    simp only at hP hl3
    obtain ⟨ca, hca, _⟩ := ht.lead.at hP.lt
    have hca' := dnats_get hca
    rw [fLe_is]
    walk_at "body"
    walk_at "ev"
    rw [List.length_map]
    refine ⟨by omega, by simp, ?_⟩
    walk_at "ro"
    refine s_seq (s_forRw ?_)
    walk_at "ev"
    rw [List.length_map]
    refine ⟨S.length, 0, [3, 4], fun i xs => ∃ x, xs = [some (.own ((ledF ms t.1 t.2 a S i).map fun t => .tup (dints t))), x], [_, _], rfl, by omega, rfl, rfl, ⟨none, ?_⟩, fun i n xs hi hn2 hx hR => ?_, fun n xs hn2 hx hR => ?_⟩
    · rw [List.flatten_replicate_singleton, ledF]
      show _ = [some (Sl.own ((List.replicate t.1.length (zt ms)).map _)), _]
      rw [List.map_replicate, hl2, hl3]
    · obtain ⟨x, rfl⟩ := hR
      walk_at "ro"
      obtain ⟨c, hc, hc2⟩ := ht.lead.at (b := i) (by omega)
      have hc' := dnats_get hc
      obtain ⟨y, ey⟩ := says_get (c := i) hl3 (by omega)
      have ey' := dsays_get ey
      have hy := hP.tie y (List.mem_of_getElem? ey)
      walk_at "ev"
      by_cases e : (i : Int) = a
      · rw [decide_eq_true e]
        walk_at "ev"
        refine ⟨[_, _], rfl, rfl, some (.dat (.int i)), ?_⟩
        rw [ledF_succ, if_pos (by omega)]
      · rw [decide_eq_false e]
        have hT := tabT_tie ht.tab hP.lt (j := i) (by omega) (by omega)
        walk_at "ev"
        refine s_setOwn (i := 3) rfl ?_
        walk_at "ev"
        refine ⟨⟨ms, _, t.2, a, i, rfl, ht.tab, hP.lt, by omega, by omega⟩, ?_⟩
        rw [fAt_is]
        walk_at "ev"
        refine ⟨by rw [List.length_map, ledF_len, hl2]; exact hc2, by omega, [_, _], rfl, rfl, some (.dat (.int i)), ?_⟩
        rw [ledF_succ, if_neg (by omega), natD_of hc, getD_of ey, List.map_set]
    · obtain ⟨x, rfl⟩ := hR
      walk_at "ro"
      refine s_freeze (i := 3) rfl ?_
      walk_at "ro"
      walk_at "ev"
      rw [ledP, natD_of hca]

theorem ok__law_behind {f : Addr} {fd : FuncData} (F : Fun K "_law_behind" "_law_behind" s__law_behind f fd)
    {f__law_sum : Addr} {fd__law_sum : FuncData} (F__law_sum : Fun K "_law_sum" "_law_sum" s__law_sum f__law_sum fd__law_sum)
    (G__law_sum : FnOk P w K mg base CX0 1 f__law_sum fd__law_sum ["_law_scale", "_law_here", "_law_there"] (SpP K preTT fSum))
    (g__law_sum : mg "_law_sum" = some (.ref f__law_sum))
    {f__law_at : Addr} {fd__law_at : FuncData} (F__law_at : Fun K "_law_at" "_law_at" s__law_at f__law_at fd__law_at)
    (G__law_at : FnOk P w K mg base CX0 1 f__law_at fd__law_at ["_law_grid", "_law_at_here", "_law_to"] (SpP K preAt fAt))
    (g__law_at : mg "_law_at" = some (.ref f__law_at))
    (m_len : mg "len" = none)
    (m_range : mg "range" = none)
    (m_tuple : mg "tuple" = none) :
    FnOk P w K mg base CX0 2 f fd ["_law_scale", "_law_first", "_law_second"] (SpP K preLbh fLbh) := by
  refine F.ok sc__law_behind (fun vs H Q E h => ?len) (fun cdv A outer s H vs Q E hr h => ⟨_, (pss_cons (ps_par (i := 4) (j := 5) rfl sc__law_behind.nd rfl rfl (by decide) rfl rfl (pa_cons (pe_callTy (show CallR _ _ (rTupC K) from call_tupC) (by rfl) m_tuple (by decide +kernel) (pa_cons (pe_lc (own := [("_law_to", 7)]) (g := gName 7) (tt := tYes) rfl sc__law_behind.nd (pi_tup (pe_ix (show IxR _ (rIxT K) from ix_tup) (pv 1) pe_int (fun _ _ => rfl))) (blkOk_by (own := [("_law_to", 7)]) (N := ["_law_scale", "_law_first", "_law_second", "_law_at_here", "_law_leads", "_law_found", "_law_line", "_law_to"]) (sc := defScope s__law_behind) (by decide +kernel)) (fun _ _ _ _ _ => (pg_name (i := 7) sc__law_behind.nd rfl (by first | exact Or.inl rfl | exact Or.inr rfl))) (fun _ _ _ _ _ => pts_nil) (fun _ _ _ _ _ => (pe_ix (show IxR _ (rIxT K) from ix_tup) (pe_ix (show IxR _ (rIxT K) from ix_tup) (pv 2) pe_int (fun _ _ => rfl)) (pv 7) (fun _ _ => rfl)))) pa_nil)) (pa_cons (pe_lst pa_nil) pa_nil)) (by rfl))
      (pss_cons (ps_for PassesOwn.never rfl (pi_range1 rfl m_range (pa_cons (pe_callB (show CallR _ _ (rLenQ K) from call_len_seq) (by rfl) m_len (by decide +kernel) (pa_cons (pv 4) pa_nil)) pa_nil)) (pg_name (i := 3) sc__law_behind.nd rfl (by first | exact Or.inl rfl | exact Or.inr rfl)) (pss_cons (ps_set (i := 6) sc__law_behind.nd rfl (by first | exact Or.inl rfl | exact Or.inr rfl) (pe_lst pa_nil))
      (pss_cons (ps_for PassesOwn.never rfl (pi_range1 rfl m_range (pa_cons (pv 3) pa_nil)) (pg_name (i := 7) sc__law_behind.nd rfl (by first | exact Or.inl rfl | exact Or.inr rfl)) (pss_one (ps_expr (pe_bm PySem.F.plainAttrs_list PySem.F.slot_list_append PySem.F.type_list_append mt_append (pv 6) (pa_cons (pe_call G__law_sum (hr.mono (by decide)) (by rfl) g__law_sum F__law_sum.kp (bi__law_sum F__law_sum) .nil pass0 (pa_cons (pv 0) (pa_cons (pe_ix (show IxR _ (rIxT K) from ix_tup) (pe_ix (show IxR _ (rIxT K) from ix_tup) (pe_ix (show IxR _ (rIxT K) from ix_tup) (pv 1) pe_int (fun _ _ => rfl)) (pv 3) (fun _ _ => rfl)) (pv 7) (fun _ _ => rfl)) (pa_cons (pe_call G__law_at (hr.mono (by decide)) (by rfl) g__law_at F__law_at.kp (bi__law_at F__law_at) .nil pass0 (pa_cons (pe_ix (show IxR _ (rIxT K) from ix_tup) (pv 2) pe_int (fun _ _ => rfl)) (pa_cons (pe_ix (show IxR _ (rIxT K) from ix_tup) (pe_ix (show IxR _ (rIxT K) from ix_tup) (pv 1) pe_int (fun _ _ => rfl)) (pv 3) (fun _ _ => rfl)) (pa_cons (pe_ix (show IxR _ (rIxT K) from ix_tup) (pe_ix (show IxR _ (rIxT K) from ix_tup) (pv 1) pe_int (fun _ _ => rfl)) (pv 7) (fun _ _ => rfl)) pa_nil)))) pa_nil)))) pa_nil)))))
      (pss_one (ps_expr (pe_bm PySem.F.plainAttrs_list PySem.F.slot_list_append PySem.F.type_list_append mt_append (pv 5) (pa_cons (pe_callTy (show CallR _ _ (rTupC K) from call_tupC) (by rfl) m_tuple (by decide +kernel) (pa_cons (pv 6) pa_nil)) pa_nil)))))))
      (pss_one (ps_ret (pe_tupC (pa_cons (pv 4) (pa_cons (pe_callTy (show CallR _ _ (rTupC K) from call_tupC) (by rfl) m_tuple (by decide +kernel) (pa_cons (pv 5) pa_nil)) pa_nil))))))), ?r⟩)
  case len =>
    obtain ⟨B, ds, _, is, ⟨ms, hs, t, u, rfl, _⟩, _⟩ := h
    exact is.length
  case r =>
    refine body_P h fun ds hp hl => ?_
    obtain ⟨ms, hs, t, u, rfl, hM, hn, ht, hu⟩ := hp
    have hl2 := ht.lead.len
    rw [fLbh_is]
    walk_at "body"
    refine s_seq (s_parOwnR (by decide) ?_)
    walk_at "ev"
    refine e_lcTf rfl ?_
    walk_at "ev"
    refine ⟨Nat, t.1, fun (i : Nat) => .int (i : Int), fun c => .int ((u.1.getD c 0 : Nat) : Int), rfl, by omega, fun i c hc => ?_, ?_⟩
    · obtain ⟨d, hd, _⟩ := hu.lead.at (ht.lead.hue i c hc).1
      have hd' := dnats_get hd
      walk_at "ev"
      dsimp only
      rw [natD_of hd]
    walk_at "ev"
    walk_at "ro"
    refine s_seq (s_forRw ?_)
    walk_at "ev"
    rw [List.length_map, hl2]
    refine ⟨hs.length, 0, [3, 5, 6, 7], fun i xs => ∃ x3 x6 x7, xs = [x3, some (.own (((behT ms t u).2.take i).map fun r => .tup (r.map fun t => .tup (dints t)))), x6, x7], [_, _, _, _], rfl, by omega, rfl, rfl, ⟨none, none, none, rfl⟩, fun i n xs hi hn2 hx hR => ?_, fun n xs hn2 hx hR => ?_⟩
    · obtain ⟨x3, x6, x7, rfl⟩ := hR
      walk_at "ro"
      obtain ⟨c, hc, hc2⟩ := ht.lead.at hi
      have hc' := dnats_get hc
      obtain ⟨r, er⟩ : ∃ r, t.2[i]? = some r := ⟨t.2[i]'(by rw [ht.tab.1]; exact hi), List.getElem?_eq_getElem _⟩
      have er' := row_get er
      refine s_seq (s_own0 ?_)
      walk_at "ro"
      refine s_seq (s_forRw ?_)
      walk_at "ev"
      refine ⟨i, 0, [6, 7], fun j ys => ∃ y7, ys = [some (.own (((behRow ms t u i).take j).map fun t => .tup (dints t))), y7], [_, _], rfl, by omega, rfl, rfl, ⟨x7, rfl⟩, fun j n3 ys hj hn3 hy hR => ?_, fun n3 ys hn3 hy hR => ?_⟩
      · obtain ⟨y7, rfl⟩ := hR
        walk_at "ro"
        obtain ⟨d, hd, hd2⟩ := ht.lead.at (b := j) (by omega)
        have hd' := dnats_get hd
        obtain ⟨r2, x, e1, e2, hx⟩ := ht.tab.at hi hj
        rw [er] at e1
        cases e1
        have e2' := dsays_get e2
        have hcd : c ≠ d := ht.lead.ne hc hd (by omega)
        have hT := tabT_tie hu.tab hc2 hd2 hcd
        refine s_app (i := 6) rfl (by rw [List.length_map, List.length_take]; omega) ?_
        walk_at "ev"
        refine ⟨⟨ms, _, u.2, c, d, rfl, hu.tab, hc2, hd2, hcd⟩, ?_⟩
        rw [fAt_is]
        walk_at "ev"
        refine ⟨[_, _], rfl, rfl, some (.dat (.int j)), ?_⟩
        have eR : (behRow ms t u i)[j]? = some (sumF ms x (tabT u.2 c d)) := by
          unfold behRow
          rw [List.getElem?_map, List.getElem?_range hj]
          show some (sumF ms (tt t.2 i j) (tabT u.2 (t.1.getD i 0) (t.1.getD j 0))) = _
          rw [natD_of hc, natD_of hd, tt_of er e2]
        rw [take_snoc eR, List.map_append]
        rfl
      · obtain ⟨y7, rfl⟩ := hR
        walk_at "ro"
        refine s_app (i := 5) rfl (by rw [List.length_map, List.length_take]; omega) ?_
        refine e_tupOwn (i := 6) rfl ?_
        refine ⟨by omega, [_, _, _, _], rfl, rfl, some (.dat (.int i)), some (.own (((behRow ms t u i).take i).map fun t => .tup (dints t))), y7, ?_⟩
        have e6 : (behRow ms t u i).take i = behRow ms t u i := List.take_of_length_le (by simp [behRow])
        rw [e6, take_snoc (beh_row (by rw [hl2]; exact hi)), List.map_append]
        rfl
    · obtain ⟨x3, x6, x7, rfl⟩ := hR
      walk_at "ro"
      refine s_freeze (i := 5) rfl ?_
      walk_at "ro"
      refine s_next ?_
      walk_at "ev"
      have e5 : (behT ms t u).2.take hs.length = (behT ms t u).2 := List.take_of_length_le (by rw [(beh_turn hM ht hu).tab.1]; exact Nat.le_refl _)
      rw [e5]
      show _ = D.tup [.tup (dnats (t.1.map fun c => u.1.getD c 0)), _]
      rw [dnats, List.map_map]
      rfl

theorem ok__law_grids {f : Addr} {fd : FuncData} (F : Fun K "_law_grids" "_law_grids" s__law_grids f fd)
    {f__law_knots : Addr} {fd__law_knots : FuncData} (F__law_knots : Fun K "_law_knots" "_law_knots" s__law_knots f__law_knots fd__law_knots)
    (G__law_knots : FnOk P w K mg base CX0 1 f__law_knots fd__law_knots ["_law_scale"] (SpP K preKs35 fKs35))
    (g__law_knots : mg "_law_knots" = some (.ref f__law_knots))
    (m_range : mg "range" = none) :
    FnOk P w K mg base CX0 2 f fd ["_law_scale", "_law_size"] (SpP K preGs35 fGs35) := by
  refine F.ok sc__law_grids (fun vs H Q E h => ?len) (fun cdv A outer s H vs Q E hr h => ⟨_, (pss_cons (ps_par (i := 3) (j := 4) rfl sc__law_grids.nd rfl rfl (by decide) rfl rfl (pa_cons (pe_lst (pa_cons (pe_tupC pa_nil) pa_nil)) (pa_cons (pe_call G__law_knots (hr.mono (by decide)) (by rfl) g__law_knots F__law_knots.kp (bi__law_knots F__law_knots) .nil pass0 (pa_cons (pv 0) pa_nil)) pa_nil)) (by rfl))
      (pss_cons (ps_for PassesOwn.never rfl (pi_range1 rfl m_range (pa_cons (pv 1) pa_nil)) (pg_name (i := 2) sc__law_grids.nd rfl (by first | exact Or.inl rfl | exact Or.inr rfl)) (pss_cons (ps_set (i := 5) sc__law_grids.nd rfl (by first | exact Or.inl rfl | exact Or.inr rfl) (pe_lst (pa_cons (pe_tupC pa_nil) pa_nil)))
      (pss_cons (ps_for PassesOwn.never rfl (pi_range1 rfl m_range (pa_cons (pv 2) pa_nil)) (pg_name (i := 6) sc__law_grids.nd rfl (by first | exact Or.inl rfl | exact Or.inr rfl)) (pss_cons (ps_set (i := 7) sc__law_grids.nd rfl (by first | exact Or.inl rfl | exact Or.inr rfl) (pe_lst pa_nil))
      (pss_cons (ps_for PassesOwn.never rfl (pi_list (pv 5)) (pg_name (i := 9) sc__law_grids.nd rfl (by first | exact Or.inl rfl | exact Or.inr rfl)) (pss_one (ps_expr (pe_bm PySem.F.plainAttrs_list PySem.F.slot_list_extend PySem.F.type_list_extend mt_extend (pv 7) (pa_cons (pe_lc (own := [("_law_knot", 10)]) (g := gName 10) (tt := tYes) rfl sc__law_grids.nd (pi_list (pv 4)) (blkOk_by (own := [("_law_knot", 10)]) (N := ["_law_scale", "_law_size", "_law_at_here", "_law_found", "_law_knots_here", "_law_lines", "_law_to", "_law_longer", "_law_grid", "_law_line", "_law_knot"]) (sc := defScope s__law_grids) (by decide +kernel)) (fun _ _ _ _ _ => (pg_name (i := 10) sc__law_grids.nd rfl (by first | exact Or.inl rfl | exact Or.inr rfl))) (fun _ _ _ _ _ => pts_nil) (fun _ _ _ _ _ => (pe_op (show OpR _ _ (rCatC K) from op_catC) (pv 9) (pe_tupC (pa_cons (pv 10) pa_nil))))) pa_nil)))))
      (pss_one (ps_set (i := 5) sc__law_grids.nd rfl (by first | exact Or.inl rfl | exact Or.inr rfl) (pv 7))))))
      (pss_cons (ps_set (i := 7) sc__law_grids.nd rfl (by first | exact Or.inl rfl | exact Or.inr rfl) (pe_lst pa_nil))
      (pss_cons (ps_for PassesOwn.never rfl (pi_list (pv 3)) (pg_name (i := 8) sc__law_grids.nd rfl (by first | exact Or.inl rfl | exact Or.inr rfl)) (pss_one (ps_expr (pe_bm PySem.F.plainAttrs_list PySem.F.slot_list_extend PySem.F.type_list_extend mt_extend (pv 7) (pa_cons (pe_lc (own := [("_law_line", 9)]) (g := gName 9) (tt := tYes) rfl sc__law_grids.nd (pi_list (pv 5)) (blkOk_by (own := [("_law_line", 9)]) (N := ["_law_scale", "_law_size", "_law_at_here", "_law_found", "_law_knots_here", "_law_lines", "_law_to", "_law_longer", "_law_grid", "_law_line", "_law_knot"]) (sc := defScope s__law_grids) (by decide +kernel)) (fun _ _ _ _ _ => (pg_name (i := 9) sc__law_grids.nd rfl (by first | exact Or.inl rfl | exact Or.inr rfl))) (fun _ _ _ _ _ => pts_nil) (fun _ _ _ _ _ => (pe_op (show OpR _ _ (rCatC K) from op_catC) (pv 8) (pe_tupC (pa_cons (pv 9) pa_nil))))) pa_nil)))))
      (pss_one (ps_set (i := 3) sc__law_grids.nd rfl (by first | exact Or.inl rfl | exact Or.inr rfl) (pv 7))))))))
      (pss_one (ps_ret (pv 3))))), ?r⟩)
  case len =>
    obtain ⟨B, ds, _, is, ⟨ms, hs, rfl, _⟩, _⟩ := h
    exact is.length
  case r =>
    refine body_P h fun ds hp hl => ?_
    obtain ⟨ms, hs, rfl, hq⟩ := hp
    rw [fGs35_is]
    have C := Cfg35.of hq
    have hM := C.M
    have h4 := C.n4
    have h30 : (ties8 ms).length ≤ 30 := cfg35_ties _ hq
    have hr30 : ∀ c < hs.length, (rows35 ms c).length ≤ 30 := cfg35_rows _ hq
    have ht64 : ∀ c < hs.length + 1, (tabs35 ms c).length ≤ 64 := cfg35_tabs _ hq
    walk_at "body"
    walk_at "ev"
    refine ⟨⟨ms, hs, rfl, hq⟩, ?_⟩
    rw [fKs35_is]
    refine a_nil ⟨_, _, rfl, ?_⟩
    walk_at "ro"
    refine s_seq (s_forRw ?_)
    walk_at "ev"
    refine ⟨hs.length, 0, [2, 3, 5, 6, 7, 8, 9], fun c xs => ∃ x2 x5 x6 x7 x8 x9, xs = [x2, some (.dat (.lst ((tabs35 ms c).map dtab))), x5, x6, x7, x8, x9], [_, _, _, _, _, _, _], rfl, by omega, rfl, rfl, ⟨_, _, _, _, _, _, rfl⟩, fun c n xs hc hn hx hR => ?_, fun n xs hn hx hR => ?_⟩
    · obtain ⟨x2, x5, x6, x7, x8, x9, rfl⟩ := hR
      walk_at "ro"
      walk_at "ev"
      refine s_seq (s_forRw ?_)
      walk_at "ev"
      refine ⟨c, 0, [5, 6, 7, 9], fun c2 xs => ∃ x6 x7 x9, xs = [some (.dat (.lst ((rows35 ms c2).map dsays))), x6, x7, x9], [_, _, _, _], rfl, by omega, rfl, rfl, ⟨_, _, _, rfl⟩, fun c2 n2 xs hc2 hn2 hx2 hR2 => ?_, fun n2 xs hn2 hx2 hR2 => ?_⟩
      · obtain ⟨x6, x7, x9, rfl⟩ := hR2
        have hA30 := hr30 c2 (by omega)
        have hAl : ∀ l ∈ rows35 ms c2, l.length ≤ 4 := fun l hl => by rw [(rows35_mem.mp hl).1]; omega
        have hsucc : rows35 ms (c2 + 1) = appS35 (ties8 ms) (rows35 ms c2) := rfl
        generalize rows35 ms c2 = A at hA30 hAl hsucc ⊢
        walk_at "ro"
        refine s_seq (s_own0 ?_)
        walk_at "ro"
        refine s_seq (s_forLw ?_)
        walk_at "ev"
        refine ⟨0, [7, 9], fun c3 xs => ∃ x9, xs = [some (.own ((appS35 (ties8 ms) (A.take c3)).map dsays)), x9], [_, _], rfl, rfl, ⟨_, rfl⟩, fun c3 n3 d xs hd hn3 hx3 hR3 => ?_, fun n3 xs hn3 hx3 hR3 => ?_⟩
        · obtain ⟨y9, rfl⟩ := hR3
          rw [List.getElem?_map, Option.map_eq_some_iff] at hd
          obtain ⟨l, hl, rfl⟩ := hd
          have hll := hAl l (List.mem_of_getElem? hl)
          walk_at "ro"
          refine s_ext (i := 7) rfl ?_
          refine e_lcLf (j := 10) rfl ?_
          walk_at "ev"
          have hfl : (appS35 (ties8 ms) (A.take c3)).length ≤ 30 * 30 := by
            refine Nat.le_trans (flat_len92 (b := 30) fun k _ => by rw [List.length_map]; exact h30) (Nat.mul_le_mul_right _ ?_)
            rw [List.length_take]; omega
          refine ⟨_, ties8 ms, fun t => D.tup (dints t), fun k => dsays (l ++ [k]), rfl, by omega, fun i k hk => ?_, ?_⟩
          · walk_at "ro"
            walk_at "ev"
            refine v_catT (by rw [List.length_map]; simp; omega) ?_
            walk_at "ev"
            show _ = D.tup ((l ++ [k]).map fun t => D.tup (dints t))
            rw [List.map_append]
            rfl
          · refine ⟨_, rfl, by simp only [List.length_map]; omega, by omega, [_, _], rfl, rfl, some (.dat (dsays l)), ?_⟩
            rw [appS_take hl, List.map_append, List.map_map]
            rfl
        · obtain ⟨y9, rfl⟩ := hR3
          rw [List.length_map, List.take_length]
          walk_at "ro"
          refine s_freeze (i := 7) rfl ?_
          walk_at "ro"
          walk_at "ev"
          refine ⟨by omega, [_, _, _, _], rfl, rfl, ?_⟩
          show ∃ x6 x7 x9, [_, _, _, _] = [some (Sl.dat (D.lst ((rows35 ms (c2 + 1)).map dsays))), x6, x7, x9]
          rw [hsucc]
          exact ⟨_, _, _, rfl⟩
      · obtain ⟨x6, x7, x9, rfl⟩ := hR2
        have hA64 := ht64 c (by omega)
        have hB30 := hr30 c hc
        have hAl : ∀ g ∈ tabs35 ms c, g.length ≤ 4 := fun g hg => by rw [(tabs35_mem.mp hg).1]; omega
        have hsucc : tabs35 ms (c + 1) = appS35 (rows35 ms c) (tabs35 ms c) := rfl
        generalize tabs35 ms c = A at hA64 hAl hsucc ⊢
        generalize rows35 ms c = R at hB30 hsucc ⊢
        walk_at "ro"
        refine s_next ?_
        refine s_forget (j := 9) ?_
        walk_at "ro"
        refine s_seq (s_own0 ?_)
        walk_at "ro"
        refine s_seq (s_forLw ?_)
        walk_at "ev"
        refine ⟨0, [7, 8], fun c3 xs => ∃ x8, xs = [some (.own ((appS35 R (A.take c3)).map dtab)), x8], [_, _], rfl, rfl, ⟨_, rfl⟩, fun c3 n3 d xs hd hn3 hx3 hR3 => ?_, fun n3 xs hn3 hx3 hR3 => ?_⟩
        · obtain ⟨y8, rfl⟩ := hR3
          rw [List.getElem?_map, Option.map_eq_some_iff] at hd
          obtain ⟨g, hg, rfl⟩ := hd
          have hgl := hAl g (List.mem_of_getElem? hg)
          walk_at "ro"
          refine s_ext (i := 7) rfl ?_
          refine e_lcLf (j := 9) rfl ?_
          walk_at "ev"
          have hfl : (appS35 R (A.take c3)).length ≤ 64 * 30 := by
            refine Nat.le_trans (flat_len92 (b := 30) fun k _ => by rw [List.length_map]; exact hB30) (Nat.mul_le_mul_right _ ?_)
            rw [List.length_take]; omega
          refine ⟨_, R, dsays, fun k => dtab (g ++ [k]), rfl, by omega, fun i k hk => ?_, ?_⟩
          · walk_at "ro"
            walk_at "ev"
            refine v_catT (by rw [List.length_map]; simp; omega) ?_
            walk_at "ev"
            show _ = D.tup ((g ++ [k]).map fun r => D.tup (r.map fun t => D.tup (dints t)))
            rw [List.map_append]
            rfl
          · refine ⟨_, rfl, by simp only [List.length_map]; omega, by omega, [_, _], rfl, rfl, some (.dat (dtab g)), ?_⟩
            rw [appS_take hg, List.map_append, List.map_map]
            rfl
        · obtain ⟨y8, rfl⟩ := hR3
          rw [List.length_map, List.take_length]
          walk_at "ro"
          refine s_freeze (i := 7) rfl ?_
          walk_at "ro"
          walk_at "ev"
          refine ⟨by omega, [_, _, _, _, _, _, _], rfl, rfl, ?_⟩
          show ∃ x2 x5 x6 x7 x8 x9, [_, _, _, _, _, _, _] = [x2, some (Sl.dat (D.lst ((tabs35 ms (c + 1)).map dtab))), x5, x6, x7, x8, x9]
          rw [hsucc]
          exact ⟨_, _, _, _, _, _, rfl⟩
    · obtain ⟨x2, x5, x6, x7, x8, x9, rfl⟩ := hR
      walk_at "ro"
      walk_at "ev"
      rfl

theorem ok__law_places {f : Addr} {fd : FuncData} (F : Fun K "_law_places" "_law_places" s__law_places f fd)
    {f__law_knots : Addr} {fd__law_knots : FuncData} (F__law_knots : Fun K "_law_knots" "_law_knots" s__law_knots f__law_knots fd__law_knots)
    (G__law_knots : FnOk P w K mg base CX0 1 f__law_knots fd__law_knots ["_law_scale"] (SpP K preKs35 fKs35))
    (g__law_knots : mg "_law_knots" = some (.ref f__law_knots))
    (m_len : mg "len" = none)
    (m_range : mg "range" = none) :
    FnOk P w K mg base CX0 2 f fd ["_law_scale", "_law_size"] (SpP K prePl43 fPl43) := by
  refine F.ok sc__law_places (fun vs H Q E h => ?len) (fun cdv A outer s H vs Q E hr h => ⟨_, (pss_cons (ps_par (i := 3) (j := 4) rfl sc__law_places.nd rfl rfl (by decide) rfl rfl (pa_cons (pe_lst pa_nil) (pa_cons (pe_call G__law_knots (hr.mono (by decide)) (by rfl) g__law_knots F__law_knots.kp (bi__law_knots F__law_knots) .nil pass0 (pa_cons (pv 0) pa_nil)) pa_nil)) (by rfl))
      (pss_cons (ps_for PassesOwn.never rfl (pi_range1 rfl m_range (pa_cons (pv 1) pa_nil)) (pg_name (i := 2) sc__law_places.nd rfl (by first | exact Or.inl rfl | exact Or.inr rfl)) (pss_cons (ps_set (i := 5) sc__law_places.nd rfl (by first | exact Or.inl rfl | exact Or.inr rfl) (pe_lst (pa_cons (pe_tupC pa_nil) pa_nil)))
      (pss_cons (ps_for PassesOwn.never rfl (pi_range1 rfl m_range (pa_cons (pv 1) pa_nil)) (pg_name (i := 6) sc__law_places.nd rfl (by first | exact Or.inl rfl | exact Or.inr rfl)) (pss_cons (ps_set (i := 7) sc__law_places.nd rfl (by first | exact Or.inl rfl | exact Or.inr rfl) (pe_lst pa_nil))
      (pss_cons (ps_for PassesOwn.never rfl (pi_list (pv 5)) (pg_name (i := 8) sc__law_places.nd rfl (by first | exact Or.inl rfl | exact Or.inr rfl)) (pss_one (ps_expr (pe_bm PySem.F.plainAttrs_list PySem.F.slot_list_extend PySem.F.type_list_extend mt_extend (pv 7) (pa_cons (pe_lc (own := [("_law_knot", 9)]) (g := gName 9) (tt := tYes) rfl sc__law_places.nd (pi_list (pe_ifExp (pt_cmpR op_ne (pv 6) (pv 2) (nomark _)) (pv 4) (pe_lst (pa_cons (pe_op (show OpR _ _ (rRepA K) from op_repA) (pe_tupC (pa_cons pe_int pa_nil)) (pe_callB (show CallR _ _ (rLenQ K) from call_len_seq) (by rfl) m_len (by decide +kernel) (pa_cons (pv 0) pa_nil))) pa_nil)))) (blkOk_by (own := [("_law_knot", 9)]) (N := ["_law_scale", "_law_size", "_law_at_here", "_law_found", "_law_knots_here", "_law_some", "_law_to", "_law_longer", "_law_says", "_law_knot"]) (sc := defScope s__law_places) (by decide +kernel)) (fun _ _ _ _ _ => (pg_name (i := 9) sc__law_places.nd rfl (by first | exact Or.inl rfl | exact Or.inr rfl))) (fun _ _ _ _ _ => pts_nil) (fun _ _ _ _ _ => (pe_op (show OpR _ _ (rCatC K) from op_catC) (pv 8) (pe_tupC (pa_cons (pv 9) pa_nil))))) pa_nil)))))
      (pss_one (ps_set (i := 5) sc__law_places.nd rfl (by first | exact Or.inl rfl | exact Or.inr rfl) (pv 7))))))
      (pss_one (ps_expr (pe_bm PySem.F.plainAttrs_list PySem.F.slot_list_extend PySem.F.type_list_extend mt_extend (pv 3) (pa_cons (pe_lc (own := [("_law_says", 8)]) (g := gName 8) (tt := tYes) rfl sc__law_places.nd (pi_list (pv 5)) (blkOk_by (own := [("_law_says", 8)]) (N := ["_law_scale", "_law_size", "_law_at_here", "_law_found", "_law_knots_here", "_law_some", "_law_to", "_law_longer", "_law_says", "_law_knot"]) (sc := defScope s__law_places) (by decide +kernel)) (fun _ _ _ _ _ => (pg_name (i := 8) sc__law_places.nd rfl (by first | exact Or.inl rfl | exact Or.inr rfl))) (fun _ _ _ _ _ => pts_nil) (fun _ _ _ _ _ => (pe_tupC (pa_cons (pv 2) (pa_cons (pv 8) pa_nil))))) pa_nil)))))))
      (pss_one (ps_ret (pv 3))))), ?r⟩)
  case len =>
    obtain ⟨B, ds, _, is, ⟨ms, hs, rfl, _⟩, _⟩ := h
    exact is.length
  case r =>
    refine body_P h fun ds hp hl => ?_
    obtain ⟨ms, hs, rfl, hq⟩ := hp
    rw [fPl43_is]
    have C := Cfg35.of hq
    have hM := C.M
    have hn4 := C.n4
    have htl : (ties8 ms).length ≤ 30 := by
      have := cfg35_ties2 _ hq 3 (by omega)
      rwa [List.take_of_length_le hM.2.1] at this
    have hb : ∀ a < hs.length, ∀ c ≤ hs.length, (says43 ms a c).length ≤ 30 := fun a ha c hc => cfg43 _ hq a ha c (Nat.lt_succ_of_le hc)
    have hpl := upto_few43 ms hs.length fun a ha => hb a ha _ (Nat.le_refl _)
    walk_at "body"
    refine s_seq (s_parOwn (by decide) ?_)
    walk_at "ev"
    refine ⟨⟨ms, hs, rfl, hq⟩, ?_⟩
    rw [fKs35_is]
    refine a_nil ⟨_, rfl, ?_⟩
    walk_at "ro"
    refine s_seq (s_forRw ?_)
    walk_at "ev"
    refine ⟨hs.length, 0, [2, 3, 5, 6, 7, 8], fun a xs => ∃ x2 x5 x6 x7 x8 : Option Sl, xs = [x2, some (.own ((upto43 ms hs.length a).map dspot)), x5, x6, x7, x8], [_, _, _, _, _, _], rfl, by omega, rfl, rfl, ⟨_, _, _, _, _, rfl⟩, fun a n1 xs ha hn1 hx hI => ?_, fun n1 xs hn1 hx hI => ?_⟩
    · obtain ⟨x2, x5, x6, x7, x8, rfl⟩ := hI
      walk_at "ro"
      walk_at "ev"
      walk_at "ro"
      refine s_seq (s_forRw ?_)
      walk_at "ev"
      refine ⟨hs.length, 0, [5, 6, 7, 8], fun c xs => ∃ x6 x7 x8 : Option Sl, xs = [some (.dat (.lst ((says43 ms a c).map dsays))), x6, x7, x8], [_, _, _, _], rfl, by omega, rfl, rfl, ⟨_, _, _, rfl⟩, fun c n2 xs hc hn2 hx2 hI2 => ?_, fun n2 xs hn2 hx2 hI2 => ?_⟩
      · obtain ⟨y6, y7, y8, rfl⟩ := hI2
        have h30 := hb a ha c (by omega)
        have h31 := hb a ha (c + 1) (by omega)
        obtain ⟨Kc, eK, hKl⟩ : ∃ Kc, Kc = (if c ≠ a then ties8 ms else [List.replicate ms.length 0]) ∧ Kc.length ≤ 30 := ⟨_, rfl, by split; exact htl; simp⟩
        have hsucc : says43 ms a (c + 1) = appS35 Kc (says43 ms a c) := by rw [eK]; rfl
        rw [hsucc] at h31
        have hsl : ∀ s ∈ says43 ms a c, s.length = c := says_len43 ms a c
        generalize says43 ms a c = A at h30 h31 hsucc hsl ⊢
        walk_at "ro"
        refine s_seq (s_own0 ?_)
        walk_at "ro"
        refine s_seq (s_forLw ?_)
        walk_at "ev"
        refine ⟨0, [7, 8], fun e xs => ∃ x8, xs = [some (.own ((appS35 Kc (A.take e)).map dsays)), x8], [_, _], rfl, rfl, ⟨_, rfl⟩, fun e n3 d xs hd hn3 hx3 hI3 => ?_, fun n3 xs hn3 hx3 hI3 => ?_⟩
        · obtain ⟨z8, rfl⟩ := hI3
          rw [List.getElem?_map, Option.map_eq_some_iff] at hd
          obtain ⟨s, hs2, rfl⟩ := hd
          have hcs := hsl s (List.mem_of_getElem? hs2)
          have hfl : (appS35 Kc (A.take e)).length ≤ 30 * 30 := by
            refine Nat.le_trans (flat_len92 (b := 30) fun k _ => by rw [List.length_map]; omega) (Nat.mul_le_mul_right _ ?_)
            rw [List.length_take]; omega
          walk_at "ro"
          refine s_ext (i := 7) rfl ?_
          refine e_lcLf (j := 9) rfl ?_
          refine e_if ?_
          walk_at "ev"
          have fin : ∀ k ∈ Kc, True := fun _ _ => trivial
          by_cases ec : c = a
          · rw [if_neg (by rw [decide_eq_true (show (c : Int) = (a : Int) by omega)]; exact Bool.false_ne_true)]
            rw [if_neg (fun z => z ec)] at eK
            walk_at "ev"
            refine ⟨List Int, [List.replicate ms.length 0], fun t => D.tup (dints t), fun k => dsays (s ++ [k]), rfl, by simp, fun i k hk => ?_, ?_⟩
            · walk_at "ro"
              walk_at "ev"
              refine v_catT (by simp; omega) ?_
              walk_at "ev"
              rw [dsays, List.map_append]
              rfl
            · refine ⟨_, rfl, by simp only [List.length_map, List.length_cons, List.length_nil]; omega, by omega, [_, _], rfl, rfl, some (.dat (dsays s)), ?_⟩
              rw [appS_take hs2, List.map_append, List.map_map]
              try rw [eK]
              rfl
          · rw [if_pos (by rw [decide_eq_false (show ¬ (c : Int) = (a : Int) by omega)]; rfl)]
            rw [if_pos ec] at eK
            walk_at "ev"
            refine ⟨List Int, ties8 ms, fun t => D.tup (dints t), fun k => dsays (s ++ [k]), rfl, by omega, fun i k hk => ?_, ?_⟩
            · walk_at "ro"
              walk_at "ev"
              refine v_catT (by simp; omega) ?_
              walk_at "ev"
              rw [dsays, List.map_append]
              rfl
            · refine ⟨_, rfl, by simp only [List.length_map]; omega, by omega, [_, _], rfl, rfl, some (.dat (dsays s)), ?_⟩
              rw [appS_take hs2, List.map_append, List.map_map]
              try rw [eK]
              rfl
        · obtain ⟨z8, rfl⟩ := hI3
          rw [List.length_map, List.take_length]
          walk_at "ro"
          refine s_freeze (i := 7) rfl ?_
          walk_at "ro"
          walk_at "ev"
          refine ⟨by omega, [_, _, _, _], rfl, rfl, ?_⟩
          rw [hsucc]
          exact ⟨_, _, _, rfl⟩
      · obtain ⟨y6, y7, y8, rfl⟩ := hI2
        have h30 := hb a ha hs.length (Nat.le_refl _)
        refine s_next ?_
        walk_at "ro"
        refine s_forget (j := 8) ?_
        walk_at "ro"
        refine s_ext (i := 3) rfl ?_
        refine e_lcLf (j := 8) rfl ?_
        walk_at "ev"
        have hup := upto_few43 ms hs.length (fun a ha => hb a ha _ (Nat.le_refl _)) a (by omega)
        refine ⟨_, says43 ms a hs.length, dsays, fun s => dspot ((a, s) : Spot), rfl, by omega, fun i s hs => ?_, ?_⟩
        · walk_at "ro"
          walk_at "ev"
          rfl
        · refine ⟨_, rfl, by simp only [List.length_map]; omega, by omega, [_, _, _, _, _, _], rfl, rfl, ?_⟩
          rw [upto_snoc43, List.map_append, List.map_map]
          exact ⟨_, _, _, _, _, rfl⟩
    · obtain ⟨x2, x5, x6, x7, x8, rfl⟩ := hI
      walk_at "ro"
      refine s_freeze (i := 3) rfl ?_
      walk_at "ro"
      walk_at "ev"
      rfl

theorem ok_is_measure {f : Addr} {fd : FuncData} (F : Fun K "is_measure" "is_measure" s_is_measure f fd)
    {f_is_within : Addr} {fd_is_within : FuncData} (F_is_within : Fun K "is_within" "is_within" s_is_within f_is_within fd_is_within)
    (G_is_within : FnOk P w K mg base CX0 2 f_is_within fd_is_within ["thing", "least", "most"] (SpP K preWithin fWithin))
    (g_is_within : mg "is_within" = some (.ref f_is_within))
    {f_product : Addr} {fd_product : FuncData} (F_product : Fun K "product" "product" s_product f_product fd_product)
    (G_product : FnOk P w K mg base CX0 1 f_product fd_product ["numbers"] (SpP K preProd8 fProd8))
    (g_product : mg "product" = some (.ref f_product))
    {t_LEAST_NUMBER : Tok} (c_LEAST_NUMBER : mg "LEAST_NUMBER" = some (.int 2 t_LEAST_NUMBER))
    {t_MOST_NUMBER : Tok} (c_MOST_NUMBER : mg "MOST_NUMBER" = some (.int 5 t_MOST_NUMBER))
    {t_MOST_NUMBERS : Tok} (c_MOST_NUMBERS : mg "MOST_NUMBERS" = some (.int 3 t_MOST_NUMBERS))
    {t_MOST_TIES : Tok} (c_MOST_TIES : mg "MOST_TIES" = some (.int 30 t_MOST_TIES))
    (m_all : mg "all" = none)
    (m_isinstance : mg "isinstance" = none)
    (m_len : mg "len" = none)
    (m_tuple : mg "tuple" = none) :
    FnOk P w K mg base CX0 3 f fd ["thing"] (SpP K preMeas fMeas) := by
  refine F.ok sc_is_measure (fun vs H Q E h => ?len) (fun cdv A outer s H vs Q E hr h => ⟨_, (pss_cons (ps_if (PW.pt (pw_or (pt_not (pt_val (pe_callB (show CallR _ _ (rIsi K) from call_isi) (by rfl) m_isinstance (by decide +kernel) (pa_cons (pv 0) (pa_cons (pe_bltn (v := .ty "tuple") (by rfl) m_tuple (by decide +kernel) rfl) pa_nil))))) (pw_or1 (pt_not (pt_val (pe_call G_is_within (hr.mono (by decide)) (by rfl) g_is_within F_is_within.kp (bi_is_within F_is_within) .nil pass0 (pa_cons (pe_callB (show CallR _ _ (rLenQ K) from call_len_seq) (by rfl) m_len (by decide +kernel) (pa_cons (pv 0) pa_nil)) (pa_cons pe_int (pa_cons (pe_glob (v := .int 3) (by rfl) c_MOST_NUMBERS ⟨_, rfl⟩) pa_nil))))))))) (pss_one (ps_ret pe_bl)) pss_nil)
      (pss_cons (ps_if (pt_not (pt_val (pe_callB (show CallR _ _ (rAll K) from cr_all rfl) (by rfl) m_all (by decide +kernel) (pa_cons (pe_lc (own := [("number", 1)]) (g := gName 1) (tt := tYes) rfl sc_is_measure.nd (pi_tup (pv 0)) (blkOk_by (own := [("number", 1)]) (N := ["thing", "number"]) (sc := defScope s_is_measure) (by decide +kernel)) (fun _ _ _ _ _ => (pg_name (i := 1) sc_is_measure.nd rfl (by first | exact Or.inl rfl | exact Or.inr rfl))) (fun _ _ _ _ _ => pts_nil) (fun _ _ _ _ _ => (pe_call G_is_within (hr.mono (by decide)) (by rfl) g_is_within F_is_within.kp (bi_is_within F_is_within) .nil pass0 (pa_cons (pv 1) (pa_cons (pe_glob (v := .int 2) (by rfl) c_LEAST_NUMBER ⟨_, rfl⟩) (pa_cons (pe_glob (v := .int 5) (by rfl) c_MOST_NUMBER ⟨_, rfl⟩) pa_nil)))))) pa_nil)))) (pss_one (ps_ret pe_bl)) pss_nil)
      (pss_one (ps_ret (pe_cmpR op_le (pe_call G_product (hr.mono (by decide)) (by rfl) g_product F_product.kp (bi_product F_product) .nil pass0 (pa_cons (pv 0) pa_nil)) (pe_glob (v := .int 30) (by rfl) c_MOST_TIES ⟨_, rfl⟩) (nomark _)))))), ?r⟩)
  case len =>
    obtain ⟨B, ds, _, is, ⟨d, rfl, _⟩, _⟩ := h
    exact is.length
  case r =>
    refine body_P h fun ds hp hl => ?_
    obtain ⟨d, rfl, hpl⟩ := hp
    have ho : d.own = false := plain_own hpl
    refine s_seq (s_if (t_or (t_not (t_B (e_isi kit_tup (e_var rfl ⟨ho, _, rfl, ?_⟩))))))
    cases d with
    | tup xs =>
      refine t_not (t_B (e_callP (a_cons (e_cb (a_cons (e_var rfl (a_nil (v_lenT (a_cons (e_int (a_cons (e_int (a_nil ⟨⟨_, _, _, rfl, rfl⟩, _, rfl, ?_⟩)))))))))))))
      cases e : D.within 1 3 (.int xs.length) with
      | false =>
        refine s_ret (e_bl ?_)
        show D.bl false = .bl (D.meas (.tup xs))
        rw [D.meas, show (decide (1 ≤ xs.length) && decide (xs.length ≤ 3)) = false from within_len e]
        rfl
      | true =>
        refine s_next ?_
        have e3 : (decide (1 ≤ xs.length) && decide (xs.length ≤ 3)) = true := within_len e
        have hlen : xs.length ≤ 3 := by
          rw [Bool.and_eq_true, decide_eq_true_eq, decide_eq_true_eq] at e3
          exact e3.2
        have hpx : ∀ x ∈ xs, x.own = false := fun x hx => plain_own (plains_mem (by simpa [D.plain] using hpl) hx)
        refine s_seq (s_if (t_not (t_B (e_cb (a_cons (e_lcT rfl (e_var rfl ⟨xs, rfl, by omega, fun i _ acc => acc = ((xs.take i).map (D.within 2 5)).map D.bl, rfl, ?_, ?_⟩)))))))
        · intro i n acc d hd hI _
          refine e_callP (a_cons (e_var rfl (a_cons (e_int (a_cons (e_int (a_nil ⟨⟨_, _, _, rfl, hpx d (List.mem_of_getElem? hd)⟩, ?_⟩)))))))
          subst hI
          rw [List.take_add_one, hd]
          simp [fWithin]
        · intro n acc _ hI
          subst hI
          rw [List.take_length]
          refine a_nil (v_all ⟨_, rfl, ?_⟩)
          have ea : ((xs.map (D.within 2 5)).all id) = xs.all (D.within 2 5) := by
            rw [List.all_map]; rfl
          rw [ea]
          cases e2 : xs.all (D.within 2 5) with
          | false =>
            refine s_ret (e_bl ?_)
            show D.bl false = .bl (D.meas (.tup xs))
            rw [D.meas, e2, e3]; rfl
          | true =>
            refine s_next (s_ret (e_op (e_callP (a_cons (e_var rfl (a_nil ⟨prod_pre8 e2, e_int (v_B0 ?_)⟩))))))
            show D.bl (decide (D.prod xs ≤ 30)) = .bl (D.meas (.tup xs))
            rw [D.meas, e2, e3]; rfl
    | _ => exact s_ret (e_bl rfl)

theorem ok_still_turning {f : Addr} {fd : FuncData} (F : Fun K "still_turning" "still_turning" s_still_turning f fd)
    {f_even_table : Addr} {fd_even_table : FuncData} (F_even_table : Fun K "even_table" "even_table" s_even_table f_even_table fd_even_table)
    (G_even_table : FnOk P w K mg base CX0 2 f_even_table fd_even_table ["frame"] (SpP K (preFr cFrame) fEv))
    (g_even_table : mg "even_table" = some (.ref f_even_table))
    {f_Frame_stem_count : Addr} {fd_Frame_stem_count : FuncData} (F_Frame_stem_count : Fun K "stem_count" "Frame.stem_count" s_Frame_stem_count f_Frame_stem_count fd_Frame_stem_count)
    (G_Frame_stem_count : FnOk P w K mg base CX0 1 f_Frame_stem_count fd_Frame_stem_count ["self"] (SpP K (preStem cFrame) fStem))
    (k_Frame : Own2 K cFrame "measure" "hues")
    (e_Frame_stem_count : Meth K cFrame "stem_count" f_Frame_stem_count)
    (m_range : mg "range" = none)
    (m_tuple : mg "tuple" = none) :
    FnOk P w K mg base CX0 3 f fd ["frame"] (SpP K (preFr cFrame) fSt) := by
  refine F.ok sc_still_turning (fun vs H Q E h => ?len) (fun cdv A outer s H vs Q E hr h => ⟨_, (pss_one (ps_ret (pe_tupC (pa_cons (pe_tupRgC rfl (by rfl) m_tuple (prg_1 (by rfl) m_range (pe_meth0 (pv 0) k_Frame.cls e_Frame_stem_count G_Frame_stem_count (hr.mono (by decide)) (bi_Frame_stem_count F_Frame_stem_count) .nil pass0))) (pa_cons (pe_call G_even_table (hr.mono (by decide)) (by rfl) g_even_table F_even_table.kp (bi_even_table F_even_table) .nil pass0 (pa_cons (pv 0) pa_nil)) pa_nil))))), ?r⟩)
  case len =>
    obtain ⟨B, ds, _, is, ⟨ms, hs, rfl, _⟩, _⟩ := h
    exact is.length
  case r =>
    refine body_P h fun ds hp hl => ?_
    obtain ⟨ms, hs, rfl, hM, hn⟩ := hp
    rw [fSt_is]
    walk_at "body"
    walk_at "ev"
    refine ⟨by omega, ?_⟩
    walk_at "ev"
    refine ⟨⟨ms, hs, rfl, hM, hn⟩, ?_⟩
    rw [fEv_is]
    walk_at "ev"
    rfl

theorem ok_put_behind {f : Addr} {fd : FuncData} (F : Fun K "put_behind" "put_behind" s_put_behind f fd)
    {f_moves_behind : Addr} {fd_moves_behind : FuncData} (F_moves_behind : Fun K "moves_behind" "moves_behind" s_moves_behind f_moves_behind fd_moves_behind)
    (G_moves_behind : FnOk P w K mg base CX0 2 f_moves_behind fd_moves_behind ["frame", "first", "second", "stem"] (SpP K (preMb cFrame) fMb))
    (g_moves_behind : mg "moves_behind" = some (.ref f_moves_behind))
    {f_Frame_stem_count : Addr} {fd_Frame_stem_count : FuncData} (F_Frame_stem_count : Fun K "stem_count" "Frame.stem_count" s_Frame_stem_count f_Frame_stem_count fd_Frame_stem_count)
    (G_Frame_stem_count : FnOk P w K mg base CX0 1 f_Frame_stem_count fd_Frame_stem_count ["self"] (SpP K (preStem cFrame) fStem))
    (k_Frame : Own2 K cFrame "measure" "hues")
    (e_Frame_stem_count : Meth K cFrame "stem_count" f_Frame_stem_count)
    (m_range : mg "range" = none)
    (m_tuple : mg "tuple" = none) :
    FnOk P w K mg base CX0 3 f fd ["frame", "first", "second"] (SpP K (preBh cFrame) fBh) := by
  refine F.ok sc_put_behind (fun vs H Q E h => ?len) (fun cdv A outer s H vs Q E hr h => ⟨_, (pss_cons (ps_set (i := 3) sc_put_behind.nd rfl (by first | exact Or.inl rfl | exact Or.inr rfl) (pe_callTy (show CallR _ _ (rTupC K) from call_tupC) (by rfl) m_tuple (by decide +kernel) (pa_cons (pe_lc (own := [("led", 5)]) (g := gName 5) (tt := tYes) rfl sc_put_behind.nd (pi_tup (pe_ix (show IxR _ (rIxT K) from ix_tup) (pv 1) pe_int (fun _ _ => rfl))) (blkOk_by (own := [("led", 5)]) (N := ["frame", "first", "second", "leads", "moves", "led", "stem"]) (sc := defScope s_put_behind) (by decide +kernel)) (fun _ _ _ _ _ => (pg_name (i := 5) sc_put_behind.nd rfl (by first | exact Or.inl rfl | exact Or.inr rfl))) (fun _ _ _ _ _ => pts_nil) (fun _ _ _ _ _ => (pe_ix (show IxR _ (rIxT K) from ix_tup) (pe_ix (show IxR _ (rIxT K) from ix_tup) (pv 2) pe_int (fun _ _ => rfl)) (pv 5) (fun _ _ => rfl)))) pa_nil)))
      (pss_cons (ps_set (i := 4) sc_put_behind.nd rfl (by first | exact Or.inl rfl | exact Or.inr rfl) (pe_callTy (show CallR _ _ (rTupC K) from call_tupC) (by rfl) m_tuple (by decide +kernel) (pa_cons (pe_lc (own := [("stem", 6)]) (g := gName 6) (tt := tYes) rfl sc_put_behind.nd (pi_range1 rfl m_range (pa_cons (pe_meth0 (pv 0) k_Frame.cls e_Frame_stem_count G_Frame_stem_count (hr.mono (by decide)) (bi_Frame_stem_count F_Frame_stem_count) .nil pass0) pa_nil)) (blkOk_by (own := [("stem", 6)]) (N := ["frame", "first", "second", "leads", "moves", "led", "stem"]) (sc := defScope s_put_behind) (by decide +kernel)) (fun _ _ _ _ _ => (pg_name (i := 6) sc_put_behind.nd rfl (by first | exact Or.inl rfl | exact Or.inr rfl))) (fun _ _ _ _ _ => pts_nil) (fun _ _ _ _ _ => (pe_call G_moves_behind (hr.mono (by decide)) (by rfl) g_moves_behind F_moves_behind.kp (bi_moves_behind F_moves_behind) .nil pass0 (pa_cons (pv 0) (pa_cons (pv 1) (pa_cons (pv 2) (pa_cons (pv 6) pa_nil))))))) pa_nil)))
      (pss_one (ps_ret (pe_tupC (pa_cons (pv 3) (pa_cons (pv 4) pa_nil))))))), ?r⟩)
  case len =>
    obtain ⟨B, ds, _, is, ⟨ms, hs, t, u, rfl, _⟩, _⟩ := h
    exact is.length
  case r =>
    refine body_P h fun ds hp hl => ?_
    obtain ⟨ms, hs, t, u, rfl, hM, hn, ht, hu⟩ := hp
    have hl2 := ht.lead.len
    rw [fBh_is]
    walk_at "body"
    walk_at "ev"
    refine e_lcTf rfl ?_
    walk_at "ev"
    refine ⟨Nat, t.1, fun (i : Nat) => .int (i : Int), fun c => .int ((u.1.getD c 0 : Nat) : Int), rfl, by omega, fun i c hc => ?_, ?_⟩
    · obtain ⟨d, hd, _⟩ := hu.lead.at (ht.lead.hue i c hc).1
      have hd' := dnats_get hd
      walk_at "ev"
      dsimp only
      rw [natD_of hd]
    walk_at "ev"
    refine e_lcRf rfl ?_
    walk_at "ev"
    refine ⟨hs.length, fun i => dsays (behRow ms t u i), rfl, by omega, fun i hi => ?_, ?_⟩
    · walk_at "ev"
      refine ⟨⟨ms, hs, t, u, i, rfl, hM, hn, ht, hu, hi⟩, ?_⟩
      rw [fMb_is]
      exact ⟨rfl, rfl⟩
    walk_at "ev"
    show _ = D.tup [.tup (dnats (t.1.map fun c => u.1.getD c 0)), dtab (mkT t.1.length _)]
    rw [hl2, dnats, List.map_map, mkT, dtab, List.map_map]
    rfl

theorem ok_turning_count {f : Addr} {fd : FuncData} (F : Fun K "turning_count" "turning_count" s_turning_count f fd)
    {f_product : Addr} {fd_product : FuncData} (F_product : Fun K "product" "product" s_product f_product fd_product)
    (G_product : FnOk P w K mg base CX0 1 f_product fd_product ["numbers"] (SpP K preProd8 fProd8))
    (g_product : mg "product" = some (.ref f_product))
    {f_like_counts : Addr} {fd_like_counts : FuncData} (F_like_counts : Fun K "like_counts" "like_counts" s_like_counts f_like_counts fd_like_counts)
    (G_like_counts : FnOk P w K mg base CX0 1 f_like_counts fd_like_counts ["marks"] (SpP K preLc8 fLc8))
    (g_like_counts : mg "like_counts" = some (.ref f_like_counts))
    {f_tie_count : Addr} {fd_tie_count : FuncData} (F_tie_count : Fun K "tie_count" "tie_count" s_tie_count f_tie_count fd_tie_count)
    (G_tie_count : FnOk P w K mg base CX0 2 f_tie_count fd_tie_count ["measure"] (SpP K preMs1 fTc8))
    (g_tie_count : mg "tie_count" = some (.ref f_tie_count))
    {f_Frame_stem_count : Addr} {fd_Frame_stem_count : FuncData} (F_Frame_stem_count : Fun K "stem_count" "Frame.stem_count" s_Frame_stem_count f_Frame_stem_count fd_Frame_stem_count)
    (G_Frame_stem_count : FnOk P w K mg base CX0 1 f_Frame_stem_count fd_Frame_stem_count ["self"] (SpP K (preStem cFrame) fStem))
    (k_Frame : Own2 K cFrame "measure" "hues")
    (e_Frame_stem_count : Meth K cFrame "stem_count" f_Frame_stem_count) :
    FnOk P w K mg base CX0 3 f fd ["frame"] (SpP K (preTcn14 cFrame) fTcn14) := by
  refine F.ok sc_turning_count (fun vs H Q E h => ?len) (fun cdv A outer s H vs Q E hr h => ⟨_, (pss_cons (ps_set (i := 1) sc_turning_count.nd rfl (by first | exact Or.inl rfl | exact Or.inr rfl) (pe_meth0 (pv 0) k_Frame.cls e_Frame_stem_count G_Frame_stem_count (hr.mono (by decide)) (bi_Frame_stem_count F_Frame_stem_count) .nil pass0))
      (pss_cons (ps_set (i := 2) sc_turning_count.nd rfl (by first | exact Or.inl rfl | exact Or.inr rfl) (pe_call G_product (hr.mono (by decide)) (by rfl) g_product F_product.kp (bi_product F_product) .nil pass0 (pa_cons (pe_call G_like_counts (hr.mono (by decide)) (by rfl) g_like_counts F_like_counts.kp (bi_like_counts F_like_counts) .nil pass0 (pa_cons (pe_fldK (K := K) rfl (pv 0) rfl) pa_nil)) pa_nil)))
      (pss_cons (ps_set (i := 3) sc_turning_count.nd rfl (by first | exact Or.inl rfl | exact Or.inr rfl) (pe_op op_fdiv (pe_op op_mul (pv 1) (pe_op op_sub (pv 1) pe_int)) pe_int))
      (pss_one (ps_ret (pe_op op_mulW (pv 2) (pe_call G_product (hr.mono (by decide)) (by rfl) g_product F_product.kp (bi_product F_product) .nil pass0 (pa_cons (pe_op op_rep (pe_lst (pa_cons (pe_call G_tie_count (hr.mono (by decide)) (by rfl) g_tie_count F_tie_count.kp (bi_tie_count F_tie_count) .nil pass0 (pa_cons (pe_fldK (K := K) rfl (pv 0) rfl) pa_nil)) pa_nil)) (pv 3)) pa_nil)))))))), ?r⟩)
  case len =>
    obtain ⟨B, ds, _, is, ⟨ms, hs, rfl, _⟩, _⟩ := h
    exact is.length
  case r =>
    refine body_P h fun ds hp hl => ?_
    obtain ⟨ms, hs, rfl, hMQ, hH⟩ := hp
    rw [fTcn14_is]
    have h16 := hH.2.1
    have hM := hMQ.1
    walk_at "body"
    walk_at "ev"
    refine ⟨.inr ⟨hs, rfl, h16⟩, ?_⟩
    rw [show fLc8 [D.tup (dints hs)] = .lst (dints (likeD (dints hs))) from rfl]
    walk_at "ev"
    have hlk := fun n (q : n ∈ likeD (dints hs)) => likeD_pos n q
    have hll : (likeD (dints hs)).length ≤ 16 := by rw [likeD_len, dints_length]; exact h16
    rw [dints_length] at hlk
    have hbd := prod_le8 (likeD (dints hs)) fun n q => by have := hlk n q; omega
    refine ⟨⟨_, .inl rfl, fun n q => by have := hlk n q; omega⟩, ?_⟩
    rw [show fProd8 [D.lst (dints (likeD (dints hs)))] = .int (D.prod (dints (likeD (dints hs)))) from rfl]
    walk_at "ev"
    refine v_I (.inl ⟨by omega, by omega⟩) ?_
    walk_at "ev"
    rw [triN_div14]
    walk_at "ev"
    refine ⟨⟨ms, rfl, hM⟩, ?_⟩
    rw [show fTc8 [D.tup (dints ms)] = .int (D.prod (dints ms)) from rfl]
    walk_at "ev"
    have ht := triN_le14 _ h16
    refine v_repL (by omega) (by omega) (by simp) ?_
    walk_at "ev"
    have er : (List.replicate ((triN hs.length : Nat) : Int).toNat [D.int (D.prod (dints ms))]).flatten = dints (List.replicate (triN hs.length) (D.prod (dints ms))) := by
      rw [Int.toNat_natCast, List.flatten_replicate_singleton]
      exact List.map_replicate.symm
    rw [er]
    have hpb := prod8_bd hM
    refine ⟨⟨_, .inl rfl, fun n q => by rw [(List.mem_replicate.mp q).2]; omega⟩, ?_⟩
    rw [show fProd8 [D.lst (dints (List.replicate (triN hs.length) (D.prod (dints ms))))] = .int (D.prod (dints (List.replicate (triN hs.length) (D.prod (dints ms))))) from rfl, prodL_rep]
    have hpw := (pow_bd14 (t := D.prod (dints ms)) (k := triN hs.length) (by omega) (by omega) ht).2
    refine v_I (wide_mul (a := 65) (b := 841) (Nat.lt_of_le_of_lt (show _ ≤ 16 ^ 16 by have := prod_le16_14 hll hbd; omega) (by decide)) hpw (by omega) (by omega) (by omega)) ?_
    rw [way_none14 hM]

theorem ok_times_to {f : Addr} {fd : FuncData} (F : Fun K "times_to" "times_to" s_times_to f fd)
    {f_lead_place : Addr} {fd_lead_place : FuncData} (F_lead_place : Fun K "lead_place" "lead_place" s_lead_place f_lead_place fd_lead_place)
    (G_lead_place : FnOk P w K mg base CX0 2 f_lead_place fd_lead_place ["frame", "turning", "place"] (SpP K (preLp cFrame) fLp))
    (g_lead_place : mg "lead_place" = some (.ref f_lead_place)) :
    FnOk P w K mg base CX0 3 f fd ["frame", "turning", "one", "other"] (SpP K (preTi28 cFrame) fTi28) := by
  refine F.ok sc_times_to (fun vs H Q E h => ?len) (fun cdv A outer s H vs Q E hr h => ⟨_, (pss_cons (ps_set (i := 4) sc_times_to.nd rfl (by first | exact Or.inl rfl | exact Or.inr rfl) (pv 2))
      (pss_cons (ps_set (i := 5) sc_times_to.nd rfl (by first | exact Or.inl rfl | exact Or.inr rfl) pe_int)
      (pss_cons (ps_while PassesOwn.never (pt_cmpR (show OpR _ _ (rNeD K) from op_neD hr.units) (pv 4) (pv 3) (nomark _)) (pss_cons (ps_set (i := 4) sc_times_to.nd rfl (by first | exact Or.inl rfl | exact Or.inr rfl) (pe_call G_lead_place (hr.mono (by decide)) (by rfl) g_lead_place F_lead_place.kp (bi_lead_place F_lead_place) .nil pass0 (pa_cons (pv 0) (pa_cons (pv 1) (pa_cons (pv 4) pa_nil)))))
      (pss_cons (ps_aug (i := 5) sc_times_to.nd rfl (by first | exact Or.inl rfl | exact Or.inr rfl) pe_int iop_add)
      (pss_one (ps_if (pt_cmpR (show OpR _ _ (rEqD K) from op_eqD hr.units) (pv 4) (pv 2) (nomark _)) (pss_one (ps_ret pe_non)) pss_nil)))))
      (pss_one (ps_ret (pv 5)))))), ?r⟩)
  case len =>
    obtain ⟨B, ds, _, is, ⟨ms, hs, t, p, q, rfl, _⟩, _⟩ := h
    exact is.length
  case r =>
    refine body_P h fun ds hp hl => ?_
    obtain ⟨ms, hs, t, p, q, rfl, hM, h16, ht, hp, hq⟩ := hp
    have htl := ht.lead.len
    rw [fTi28_is, htl]
    obtain ⟨s1, s2, s3⟩ := perP_spec28 hM ht hp
    have ipl := fun k => itP_pl28 hM ht hp k
    have inum : ∀ k, Num 3 1700 (dspot (itP28 ms t k p)) := fun k => num_place hM (by omega) (ipl k).lt (ipl k).len (ipl k).tie
    have qnum : Num 3 1700 (dspot q) := num_place hM (by omega) hq.lt hq.len hq.tie
    have dsp : ∀ x y : Spot, dspot x = dspot y → x = y := fun x y e => by
      have := congrArg uspot e
      rwa [uspot_dspot, uspot_dspot] at this
    walk_at "body"
    walk_at "ev"
    refine s_seq (s_while (q0 := perP28 ms hs.length t p) (I := fun w n ρ' => n = 0 ∧ ∃ j : Nat, j + w = perP28 ms hs.length t p ∧ (∀ i, i < j → itP28 ms t i p ≠ q) ∧
      ρ' = [some (.dat (frD cFrame ms hs)), some (.dat (dturn t)), some (.dat (dspot p)), some (.dat (dspot q)), some (.dat (dspot (itP28 ms t j p))), some (.dat (.int (j : Nat)))]) ⟨rfl, 0, Nat.zero_add _, fun i hi => by omega, rfl⟩ ?_)
    rintro w n ρ' ⟨rfl, j, hj, hno, rfl⟩
    walk_at "ev"
    by_cases e : itP28 ms t j p = q
    · rw [e]
      refine v_neDs qnum (by omega) ⟨_, rfl, ?_⟩
      rw [if_neg Bool.false_ne_true]
      refine s_next ?_
      refine s_ret (e_var rfl ?_)
      have hm : q ∈ ringP28 ms hs.length t p := (ringP_mem28 hM ht hp).mpr ⟨j, e⟩
      have hjr := ringP_get28 (ms := ms) (t := t) (n := hs.length) (p := p) (k := j) (by omega)
      rw [e] at hjr
      have h1 := idx_le28 _ _ _ hjr
      have h2 := idx_at28 hm
      have h3 : (ringP28 ms hs.length t p).idxOf q = j := by
        rcases Nat.lt_or_ge ((ringP28 ms hs.length t p).idxOf q) j with z | z
        · have h4 := ringP_get28 (ms := ms) (t := t) (n := hs.length) (p := p) (k := (ringP28 ms hs.length t p).idxOf q) (by omega)
          rw [h2] at h4
          exact absurd (Option.some.inj h4).symm (hno _ z)
        · omega
      rw [if_pos hm, h3]
    · refine v_neDo (inum j) qnum (by omega) (by omega) (fun z => e (dsp _ _ z)) ⟨_, rfl, ?_⟩
      rw [if_pos rfl]
      walk_at "ev"
      refine ⟨⟨ms, hs, t, _, rfl, hM, h16, ht, ipl j⟩, ?_⟩
      rw [fLp_is]
      walk_at "ev"
      refine s_aug rfl (e_int (v_I0 ?_))
      rw [show ledP ms t (itP28 ms t j p) = itP28 ms t (j + 1) p from rfl]
      walk_at "ro"
      walk_at "ev"
      by_cases e1 : itP28 ms t (j + 1) p = p
      · rw [e1]
        refine v_eqD ((inum 0).eqs (by omega)) ((inum 0).eqs (by omega)) ?_
        rw [show PyData.eqv (dspot p).py (dspot p).py = true from (inum 0).same]
        walk_at "ev"
        have hjp : j = perP28 ms hs.length t p := by
          rcases Nat.lt_or_ge j (perP28 ms hs.length t p) with z | z
          · exact absurd e1 (s3 j z)
          · omega
        rw [if_neg fun hm => ?_]
        obtain ⟨k, hk⟩ := (ringP_mem28 hM ht hp).mp hm
        rw [itP_mod28 hM ht hp] at hk
        have hkl := Nat.mod_lt k (show 0 < perP28 ms hs.length t p + 1 by omega)
        by_cases ek : k % (perP28 ms hs.length t p + 1) = j
        · exact e (by rw [← ek]; exact hk)
        · exact hno _ (by omega) hk
      · refine v_eqDo (inum (j + 1)) (inum 0) (by omega) (by omega) (fun z => e1 (dsp _ _ z)) ?_
        have hjp : j < perP28 ms hs.length t p := by
          rcases Nat.lt_or_ge j (perP28 ms hs.length t p) with z | z
          · exact z
          · exact absurd (by rw [show j = perP28 ms hs.length t p by omega]; exact s2) e1
        walk_at "ev"
        refine ⟨w - 1, by omega, rfl, j + 1, by omega, fun i hi => ?_, rfl⟩
        by_cases ei : i = j
        · rw [ei]; exact e
        · exact hno i (by omega)

theorem ok_is_hue {f : Addr} {fd : FuncData} (F : Fun K "is_hue" "is_hue" s_is_hue f fd)
    {f_is_within : Addr} {fd_is_within : FuncData} (F_is_within : Fun K "is_within" "is_within" s_is_within f_is_within fd_is_within)
    (G_is_within : FnOk P w K mg base CX0 2 f_is_within fd_is_within ["thing", "least", "most"] (SpP K preWithin fWithin))
    (g_is_within : mg "is_within" = some (.ref f_is_within))
    {t_MOST_HUE : Tok} (c_MOST_HUE : mg "MOST_HUE" = some (.int 9 t_MOST_HUE)) :
    FnOk P w K mg base CX0 3 f fd ["thing"] (SpP K preWhole fHue) := by
  refine F.ok sc_is_hue (fun vs H Q E h => ?len) (fun cdv A outer s H vs Q E hr h => ⟨_, (pss_one (ps_ret (pe_call G_is_within (hr.mono (by decide)) (by rfl) g_is_within F_is_within.kp (bi_is_within F_is_within) .nil pass0 (pa_cons (pv 0) (pa_cons pe_int (pa_cons (pe_glob (v := .int 9) (by rfl) c_MOST_HUE ⟨_, rfl⟩) pa_nil)))))), ?r⟩)
  case len =>
    obtain ⟨B, ds, _, is, ⟨d, rfl, _⟩, _⟩ := h
    exact is.length
  case r =>
    refine body_P h fun ds hp hl => ?_
    obtain ⟨d, rfl, ho⟩ := hp
    walk_at "body"
    walk_at "ev"
    exact ⟨⟨_, _, _, rfl, ho⟩, rfl⟩

theorem ok_stem_stays {f : Addr} {fd : FuncData} (F : Fun K "stem_stays" "stem_stays" s_stem_stays f fd)
    {f_tie_count : Addr} {fd_tie_count : FuncData} (F_tie_count : Fun K "tie_count" "tie_count" s_tie_count f_tie_count fd_tie_count)
    (G_tie_count : FnOk P w K mg base CX0 2 f_tie_count fd_tie_count ["measure"] (SpP K preMs1 fTc8))
    (g_tie_count : mg "tie_count" = some (.ref f_tie_count))
    {f_stem_ring : Addr} {fd_stem_ring : FuncData} (F_stem_ring : Fun K "stem_ring" "stem_ring" s_stem_ring f_stem_ring fd_stem_ring)
    (G_stem_ring : FnOk P w K mg base CX0 1 f_stem_ring fd_stem_ring ["leads", "stem"] (SpP K preSr26 fSr26))
    (g_stem_ring : mg "stem_ring" = some (.ref f_stem_ring))
    {f_Frame_stem_count : Addr} {fd_Frame_stem_count : FuncData} (F_Frame_stem_count : Fun K "stem_count" "Frame.stem_count" s_Frame_stem_count f_Frame_stem_count fd_Frame_stem_count)
    (G_Frame_stem_count : FnOk P w K mg base CX0 1 f_Frame_stem_count fd_Frame_stem_count ["self"] (SpP K (preStem cFrame) fStem))
    {f_is_even : Addr} {fd_is_even : FuncData} (F_is_even : Fun K "is_even" "is_even" s_is_even f_is_even fd_is_even)
    (G_is_even : FnOk P w K mg base CX0 2 f_is_even fd_is_even ["frame", "moves", "stem", "ring"] (SpP K (preEv31 cFrame) fEv31))
    (g_is_even : mg "is_even" = some (.ref f_is_even))
    (k_Frame : Own2 K cFrame "measure" "hues")
    (e_Frame_stem_count : Meth K cFrame "stem_count" f_Frame_stem_count)
    (m_min : mg "min" = none)
    (m_range : mg "range" = none) :
    FnOk P w K mg base CX0 3 f fd ["frame", "turning", "stem"] (SpP K (preSs31 cFrame) fSs31) := by
  refine F.ok sc_stem_stays (fun vs H Q E h => ?len) (fun cdv A outer s H vs Q E hr h => ⟨_, (pss_cons (ps_asg (pv 1) (pg_tup rfl (pgs_cons (pg_name (i := 5) sc_stem_stays.nd rfl (by first | exact Or.inl rfl | exact Or.inr rfl)) (pgs_cons (pg_name (i := 6) sc_stem_stays.nd rfl (by first | exact Or.inl rfl | exact Or.inr rfl)) pgs_nil))))
      (pss_cons (ps_set (i := 3) sc_stem_stays.nd rfl (by first | exact Or.inl rfl | exact Or.inr rfl) pe_int)
      (pss_cons (ps_for PassesOwn.never rfl (pi_range1 rfl m_range (pa_cons (pe_meth0 (pv 0) k_Frame.cls e_Frame_stem_count G_Frame_stem_count (hr.mono (by decide)) (bi_Frame_stem_count F_Frame_stem_count) .nil pass0) pa_nil)) (pg_name (i := 4) sc_stem_stays.nd rfl (by first | exact Or.inl rfl | exact Or.inr rfl)) (pss_cons (ps_set (i := 7) sc_stem_stays.nd rfl (by first | exact Or.inl rfl | exact Or.inr rfl) (pe_call G_stem_ring (hr.mono (by decide)) (by rfl) g_stem_ring F_stem_ring.kp (bi_stem_ring F_stem_ring) .nil pass0 (pa_cons (pv 5) (pa_cons (pv 4) pa_nil))))
      (pss_one (ps_if (PW.pt (pw_and (pt_cmpR op_ne (pv 4) (pv 2) (nomark _)) (pw_and1 (pt_cmpR op_eq (pv 4) (pe_callB (show CallR _ _ (rMinD K) from cr_minD rfl hr.units) (by rfl) m_min (by decide +kernel) (pa_cons (pv 7) pa_nil)) (nomark _))))) (pss_one (ps_aug (i := 3) sc_stem_stays.nd rfl (by first | exact Or.inl rfl | exact Or.inr rfl) (pe_ifExp (pt_val (pe_call G_is_even (hr.mono (by decide)) (by rfl) g_is_even F_is_even.kp (bi_is_even F_is_even) .nil pass0 (pa_cons (pv 0) (pa_cons (pv 6) (pa_cons (pv 2) (pa_cons (pv 7) pa_nil)))))) (pe_call G_tie_count (hr.mono (by decide)) (by rfl) g_tie_count F_tie_count.kp (bi_tie_count F_tie_count) .nil pass0 (pa_cons (pe_fldK (K := K) rfl (pv 0) rfl) pa_nil)) pe_int) iop_mul)) pss_nil))))
      (pss_one (ps_ret (pv 3)))))), ?r⟩)
  case len =>
    obtain ⟨B, ds, _, is, ⟨ms, hs, t, i, rfl, _⟩, _⟩ := h
    exact is.length
  case r =>
    refine body_P h fun ds hp hl => ?_
    obtain ⟨ms, hs, t, i, rfl, hM, h16, ht, hi, hti⟩ := hp
    rw [fSs31_is]
    have htl := ht.lead.len
    have hI26 := lead_inj26 ht.lead
    walk_at "body"
    walk_at "ev"
    refine s_forRw ?_
    walk_at "ev"
    refine ⟨hs.length, 0, [3, 4, 7], fun c xs => ∃ (x4 x7 : Option Sl), xs = [some (.dat (.int ((List.range c).foldl (step31 ms t i) 1))), x4, x7], [_, _, _], ?_, by omega, rfl, rfl, ⟨none, none, rfl⟩, fun c n xs hc hn hx hI => ?_, fun n xs hn hx hI => ?_⟩
    · rfl
    · obtain ⟨x4, x7, rfl⟩ := hI
      have hper := (hI26.per (x := c) (by omega)).1
      have hRne : ringN26 t.1 c ≠ [] := fun e => by
        have := congrArg List.length e
        rw [ringN26, List.length_map, List.length_range] at this
        simp at this
      walk_at "ro"
      walk_at "ev"
      refine ⟨⟨t.1, c, rfl, hI26, by omega, by omega⟩, ?_⟩
      rw [fSr26_is]
      walk_at "ev"
      walk_at "ro"
      walk_at "ev"
      have estep : (List.range (c + 1)).foldl (step31 ms t i) 1 = step31 ms t i ((List.range c).foldl (step31 ms t i) 1) c := by
        rw [List.range_succ, List.foldl_append]; rfl
      by_cases ec : c = i
      · rw [if_neg (by rw [decide_eq_true (show (c : Int) = (i : Int) by omega)]; exact Bool.false_ne_true)]
        walk_at "ev"
        refine ⟨[_, _, _], rfl, rfl, some (.dat (.int (c : Nat))), some (.dat (.lst (dnats (ringN26 t.1 c)))), ?_⟩
        rw [estep, step31, if_neg fun z => z.1 ec]
      · rw [if_pos (by rw [decide_eq_false (show ¬ (c : Int) = (i : Int) by omega)]; rfl)]
        walk_at "ev"
        refine v_minN31 hRne fun y hy hy2 => ?_
        have hle := least_is31 hy hy2
        walk_at "ev"
        by_cases ey : c = y
        · have hle2 : least31 t.1 c = true := by rw [hle]; exact decide_eq_true ey
          rw [if_pos (decide_eq_true (show (c : Int) = (y : Int) by omega))]
          refine s_aug rfl (e_if ?_)
          walk_at "ev"
          refine ⟨⟨ms, hs, t.2, i, ringN26 t.1 c, rfl, hM, ht.tab, hi, by rw [ringN26, List.length_map, List.length_range]; omega, fun o ho => ?_⟩, ?_⟩
          · obtain ⟨k, _, rfl⟩ := List.mem_map.mp ho
            exact ⟨by have := hI26.it_lt (show c < t.1.length by omega) k; omega, fun e => ring_ne31 hI26 (show i < t.1.length by omega) hti (show c < t.1.length by omega) ec k e.symm⟩
          rw [fEv31_is]
          cases ee : even31 ms t.2 i (ringN26 t.1 c) with
          | true =>
            have hpr := prod8_bd hM
            walk_at "ev"
            refine ⟨⟨ms, rfl, hM⟩, ?_⟩
            rw [show fTc8 [D.tup (dints ms)] = D.int (D.prod (dints ms)) from rfl]
            refine v_I (show CMul _ _ from .inr ⟨by omega, by omega⟩) ?_
            refine ⟨Nat.le_refl _, [_, _, _], rfl, rfl, some (.dat (.int (c : Nat))), some (.dat (.lst (dnats (ringN26 t.1 c)))), ?_⟩
            rw [estep, step31, if_pos ⟨ec, hle2⟩, if_pos ee]
          | false =>
            walk_at "ev"
            refine ⟨[_, _, _], rfl, rfl, some (.dat (.int (c : Nat))), some (.dat (.lst (dnats (ringN26 t.1 c)))), ?_⟩
            rw [estep, step31, if_pos ⟨ec, hle2⟩, if_neg (by rw [ee]; exact Bool.false_ne_true)]
        · rw [if_neg (by rw [decide_eq_false (show ¬ (c : Int) = (y : Int) by omega)]; exact Bool.false_ne_true)]
          walk_at "ev"
          refine ⟨[_, _, _], rfl, rfl, some (.dat (.int (c : Nat))), some (.dat (.lst (dnats (ringN26 t.1 c)))), ?_⟩
          rw [estep, step31, if_neg fun z => ey (by have := z.2; rw [hle] at this; exact of_decide_eq_true this)]
    · obtain ⟨x4, x7, rfl⟩ := hI
      walk_at "ro"
      walk_at "ev"
      rw [stem31, htl]

theorem ok__law_turnings {f : Addr} {fd : FuncData} (F : Fun K "_law_turnings" "_law_turnings" s__law_turnings f fd)
    {f__law_grids : Addr} {fd__law_grids : FuncData} (F__law_grids : Fun K "_law_grids" "_law_grids" s__law_grids f__law_grids fd__law_grids)
    (G__law_grids : FnOk P w K mg base CX0 2 f__law_grids fd__law_grids ["_law_scale", "_law_size"] (SpP K preGs35 fGs35))
    (g__law_grids : mg "_law_grids" = some (.ref f__law_grids))
    {f__law_orders : Addr} {fd__law_orders : FuncData} (F__law_orders : Fun K "_law_orders" "_law_orders" s__law_orders f__law_orders fd__law_orders)
    (G__law_orders : FnOk P w K mg base CX0 1 f__law_orders fd__law_orders ["_law_hues"] (SpP K preOs92 fOs92))
    (g__law_orders : mg "_law_orders" = some (.ref f__law_orders))
    (m_len : mg "len" = none) :
    FnOk P w K mg base CX0 3 f fd ["_law_scale", "_law_hues"] (SpP K preTs35 fTs35) := by
  refine F.ok sc__law_turnings (fun vs H Q E h => ?len) (fun cdv A outer s H vs Q E hr h => ⟨_, (pss_cons (ps_par (i := 3) (j := 4) rfl sc__law_turnings.nd rfl rfl (by decide) rfl rfl (pa_cons (pe_lst pa_nil) (pa_cons (pe_call G__law_grids (hr.mono (by decide)) (by rfl) g__law_grids F__law_grids.kp (bi__law_grids F__law_grids) .nil pass0 (pa_cons (pv 0) (pa_cons (pe_callB (show CallR _ _ (rLenQ K) from call_len_seq) (by rfl) m_len (by decide +kernel) (pa_cons (pv 1) pa_nil)) pa_nil))) pa_nil)) (by rfl))
      (pss_cons (ps_for PassesOwn.never rfl (pi_list (pe_call G__law_orders (hr.mono (by decide)) (by rfl) g__law_orders F__law_orders.kp (bi__law_orders F__law_orders) .nil pass0 (pa_cons (pv 1) pa_nil))) (pg_name (i := 2) sc__law_turnings.nd rfl (by first | exact Or.inl rfl | exact Or.inr rfl)) (pss_one (ps_expr (pe_bm PySem.F.plainAttrs_list PySem.F.slot_list_extend PySem.F.type_list_extend mt_extend (pv 3) (pa_cons (pe_lc (own := [("_law_grid", 5)]) (g := gName 5) (tt := tYes) rfl sc__law_turnings.nd (pi_list (pv 4)) (blkOk_by (own := [("_law_grid", 5)]) (N := ["_law_scale", "_law_hues", "_law_leads", "_law_found", "_law_grids_here", "_law_grid"]) (sc := defScope s__law_turnings) (by decide +kernel)) (fun _ _ _ _ _ => (pg_name (i := 5) sc__law_turnings.nd rfl (by first | exact Or.inl rfl | exact Or.inr rfl))) (fun _ _ _ _ _ => pts_nil) (fun _ _ _ _ _ => (pe_tupC (pa_cons (pv 2) (pa_cons (pv 5) pa_nil))))) pa_nil)))))
      (pss_one (ps_ret (pv 3))))), ?r⟩)
  case len =>
    obtain ⟨B, ds, _, is, ⟨ms, hs, rfl, _⟩, _⟩ := h
    exact is.length
  case r =>
    refine body_P h fun ds hp hl => ?_
    obtain ⟨ms, hs, rfl, hq⟩ := hp
    rw [fTs35_is]
    have C := Cfg35.of hq
    have hM := C.M
    have h4 := C.n4
    have ht64 : (tabs35 ms hs.length).length ≤ 64 := cfg35_tabs _ hq _ (by show hs.length < hs.length + 1; omega)
    have ho24 : (ords92 hs hs.length).length ≤ 24 := cfg35_ords _ hq _ (by show hs.length < hs.length + 1; omega)
    walk_at "body"
    refine s_seq (s_parOwn (by decide) ?_)
    walk_at "ev"
    refine ⟨⟨ms, hs, by rw [dints_length], hq⟩, ?_⟩
    rw [dints_length, fGs35_is]
    walk_at "ev"
    walk_at "ro"
    refine s_seq (s_forLw ?_)
    walk_at "ev"
    refine ⟨⟨hs, rfl, C.H, by omega⟩, ?_⟩
    rw [fOs92_is]
    refine ⟨_, rfl, 0, [2, 3], fun c xs => ∃ x2, xs = [x2, some (.own ((((ords92 hs hs.length).take c).flatMap fun L => (tabs35 ms hs.length).map fun g => (L, g)).map dturn))], [_, _], rfl, rfl, ⟨_, rfl⟩, fun c n d xs hd hn hx hR => ?_, fun n xs hn hx hR => ?_⟩
    · obtain ⟨x2, rfl⟩ := hR
      rw [List.getElem?_map, Option.map_eq_some_iff] at hd
      obtain ⟨L, hL, rfl⟩ := hd
      have hcl := (List.getElem?_eq_some_iff.mp hL).1
      walk_at "ro"
      refine s_ext (i := 3) rfl ?_
      refine e_lcLf (j := 5) rfl ?_
      walk_at "ev"
      have hfl : (((ords92 hs hs.length).take c).flatMap fun L => (tabs35 ms hs.length).map fun g => (L, g)).length ≤ 24 * 64 := by
        refine Nat.le_trans (flat_len92 (b := 64) fun k _ => by rw [List.length_map]; exact ht64) (Nat.mul_le_mul_right _ ?_)
        rw [List.length_take]; omega
      refine ⟨_, tabs35 ms hs.length, dtab, fun g => dturn (L, g), rfl, by omega, fun i g hg => ?_, ?_⟩
      · walk_at "ro"
        walk_at "ev"
        rfl
      · refine ⟨_, rfl, by simp only [List.length_map]; omega, by omega, [_, _], rfl, rfl, some (.dat (dord L)), ?_⟩
        rw [List.take_add_one, hL, List.flatMap_append, Option.toList_some, List.flatMap_singleton, List.map_append, List.map_map]
        rfl
    · obtain ⟨x2, rfl⟩ := hR
      rw [List.length_map, List.take_length]
      walk_at "ro"
      refine s_next ?_
      refine s_retOwn8 (i := 3) rfl ?_
      rfl

theorem ok__law_little {f : Addr} {fd : FuncData} (F : Fun K "_law_little" "_law_little" s__law_little f fd)
    {f__law_of : Addr} {fd__law_of : FuncData} (F__law_of : Fun K "_law_of" "_law_of" s__law_of f__law_of fd__law_of)
    (G__law_of : FnOk P w K mg base CX0 2 f__law_of fd__law_of ["_law_hand_here", "_law_some"] (SpOfV K))
    (g__law_of : mg "_law_of" = some (.ref f__law_of)) :
    FnOk P w K mg base CX0 3 f fd ["_law_hand_here"] (SpH K preLi35 psiLi35) := by
  refine F.ok sc__law_little (fun vs H Q E h => ?len) (fun cdv A outer s H vs Q E hr h => ⟨_, (pss_cons (ps_set (i := 1) sc__law_little.nd rfl (by first | exact Or.inl rfl | exact Or.inr rfl) (pe_lst (pa_cons (pe_tupC (pa_cons (pe_tupC (pa_cons pe_int pa_nil)) (pa_cons (pe_tupC (pa_cons pe_int (pa_cons pe_int pa_nil))) pa_nil))) (pa_cons (pe_tupC (pa_cons (pe_tupC (pa_cons pe_int pa_nil)) (pa_cons (pe_tupC (pa_cons pe_int (pa_cons pe_int (pa_cons pe_int pa_nil)))) pa_nil))) (pa_cons (pe_tupC (pa_cons (pe_tupC (pa_cons pe_int pa_nil)) (pa_cons (pe_tupC (pa_cons pe_int (pa_cons pe_int (pa_cons pe_int pa_nil)))) pa_nil))) (pa_cons (pe_tupC (pa_cons (pe_tupC (pa_cons pe_int pa_nil)) (pa_cons (pe_tupC (pa_cons pe_int (pa_cons pe_int (pa_cons pe_int pa_nil)))) pa_nil))) (pa_cons (pe_tupC (pa_cons (pe_tupC (pa_cons pe_int pa_nil)) (pa_cons (pe_tupC (pa_cons pe_int (pa_cons pe_int (pa_cons pe_int (pa_cons pe_int pa_nil))))) pa_nil))) pa_nil)))))))
      (pss_cons (ps_set (i := 1) sc__law_little.nd rfl (by first | exact Or.inl rfl | exact Or.inr rfl) (pe_op op_cat (pv 1) (pe_lst (pa_cons (pe_tupC (pa_cons (pe_tupC (pa_cons pe_int pa_nil)) (pa_cons (pe_tupC (pa_cons pe_int (pa_cons pe_int pa_nil))) pa_nil))) (pa_cons (pe_tupC (pa_cons (pe_tupC (pa_cons pe_int (pa_cons pe_int pa_nil))) (pa_cons (pe_tupC (pa_cons pe_int (pa_cons pe_int pa_nil))) pa_nil))) (pa_cons (pe_tupC (pa_cons (pe_tupC (pa_cons pe_int pa_nil)) (pa_cons (pe_tupC (pa_cons pe_int (pa_cons pe_int (pa_cons pe_int pa_nil)))) pa_nil))) (pa_cons (pe_tupC (pa_cons (pe_tupC (pa_cons pe_int pa_nil)) (pa_cons (pe_tupC (pa_cons pe_int (pa_cons pe_int (pa_cons pe_int (pa_cons pe_int pa_nil))))) pa_nil))) pa_nil)))))))
      (pss_one (ps_ret (pe_call G__law_of (hr.mono (by decide)) (by rfl) g__law_of F__law_of.kp (bi__law_of F__law_of) .nil pass0 (pa_cons (pv 0) (pa_cons (pe_op op_cat (pv 1) (pe_lst (pa_cons (pe_tupC (pa_cons (pe_tupC (pa_cons pe_int (pa_cons pe_int (pa_cons pe_int pa_nil)))) (pa_cons (pe_tupC (pa_cons pe_int (pa_cons pe_int pa_nil))) pa_nil))) (pa_cons (pe_tupC (pa_cons (pe_tupC (pa_cons pe_int (pa_cons pe_int pa_nil))) (pa_cons (pe_tupC (pa_cons pe_int (pa_cons pe_int (pa_cons pe_int pa_nil)))) pa_nil))) pa_nil)))) pa_nil))))))), ?r⟩)
  case len =>
    obtain ⟨l, ws, B, ds, m, rfl, _, _, _, is, ⟨_, rfl⟩, _⟩ := h
    show ws.length + 1 = 1
    rw [is.length]; rfl
  case r =>
    refine body_H h fun ad ds m hp hl => ?_
    obtain ⟨hm, rfl⟩ := hp
    walk_at "body"
    walk_at "ev"
    refine v_catL (by simp) ?_
    walk_at "ev"
    refine v_catL (by simp) ?_
    refine g_of (by omega) rfl (by simp) (by simp) fun m2 d h2 hd => ?_
    refine ⟨by omega, ?_⟩
    have hd : d ∈ cfg35.map fun q => D.tup [.tup (dints q.1), .tup (dints q.2)] := hd
    obtain ⟨q, hq, rfl⟩ := List.mem_map.mp hd
    exact ⟨q, hq, rfl⟩

theorem ok__law_ring {f : Addr} {fd : FuncData} (F : Fun K "_law_ring" "_law_ring" s__law_ring f fd)
    {f__law_led : Addr} {fd__law_led : FuncData} (F__law_led : Fun K "_law_led" "_law_led" s__law_led f__law_led fd__law_led)
    (G__law_led : FnOk P w K mg base CX0 2 f__law_led fd__law_led ["_law_scale", "_law_turn", "_law_spot"] (SpP K preLe fLe))
    (g__law_led : mg "_law_led" = some (.ref f__law_led)) :
    FnOk P w K mg base CX0 3 f fd ["_law_scale", "_law_turn", "_law_spot"] (SpP K preRi28 fRi28) := by
  refine F.ok sc__law_ring (fun vs H Q E h => ?len) (fun cdv A outer s H vs Q E hr h => ⟨_, (pss_cons (ps_par (i := 3) (j := 4) rfl sc__law_ring.nd rfl rfl (by decide) rfl rfl (pa_cons (pe_lst (pa_cons (pv 2) pa_nil)) (pa_cons (pe_call G__law_led (hr.mono (by decide)) (by rfl) g__law_led F__law_led.kp (bi__law_led F__law_led) .nil pass0 (pa_cons (pv 0) (pa_cons (pv 1) (pa_cons (pv 2) pa_nil)))) pa_nil)) (by rfl))
      (pss_cons (ps_while PassesOwn.never (pt_cmpR (show OpR _ _ (rNeD K) from op_neD hr.units) (pv 4) (pv 2) (nomark _)) (pss_cons (ps_expr (pe_bm PySem.F.plainAttrs_list PySem.F.slot_list_append PySem.F.type_list_append mt_append (pv 3) (pa_cons (pv 4) pa_nil)))
      (pss_one (ps_set (i := 4) sc__law_ring.nd rfl (by first | exact Or.inl rfl | exact Or.inr rfl) (pe_call G__law_led (hr.mono (by decide)) (by rfl) g__law_led F__law_led.kp (bi__law_led F__law_led) .nil pass0 (pa_cons (pv 0) (pa_cons (pv 1) (pa_cons (pv 4) pa_nil))))))))
      (pss_one (ps_ret (pv 3))))), ?r⟩)
  case len =>
    obtain ⟨B, ds, _, is, ⟨ms, hs, t, p, rfl, _⟩, _⟩ := h
    exact is.length
  case r =>
    refine body_P h fun ds hp hl => ?_
    obtain ⟨ms, hs, t, p, rfl, hM, h16, ht, hp⟩ := hp
    have htl := ht.lead.len
    rw [fRi28_is, htl]
    obtain ⟨s1, s2, s3⟩ := perP_spec28 hM ht hp
    have hob := ord_bd28 hM ht h16
    have ipl := fun k => itP_pl28 hM ht hp k
    have inum : ∀ k, Num 3 1700 (dspot (itP28 ms t k p)) := fun k => num_place hM (by omega) (ipl k).lt (ipl k).len (ipl k).tie
    have dsp : ∀ x y : Spot, dspot x = dspot y → x = y := fun x y e => by
      have := congrArg uspot e
      rwa [uspot_dspot, uspot_dspot] at this
    walk_at "body"
    refine s_seq (s_parOwnLT (i := 3) (j := 4) ?_)
    walk_at "ev"
    refine ⟨⟨ms, hs, t, p, rfl, hM, h16, ht, hp⟩, ?_⟩
    rw [fLe_is]
    walk_at "ro"
    refine s_seq (s_while (q0 := perP28 ms hs.length t p) (I := fun q n ρ' => n = 0 ∧ ∃ j : Nat, j + q = perP28 ms hs.length t p ∧
      ρ' = [some (.dat (.tup (dints ms))), some (.dat (dturn t)), some (.dat (dspot p)), some (.own ((List.range (j + 1)).map fun k => dspot (itP28 ms t k p))), some (.dat (dspot (itP28 ms t (j + 1) p)))]) ⟨rfl, 0, Nat.zero_add _, rfl⟩ ?_)
    rintro q n ρ' ⟨rfl, j, hj, rfl⟩
    walk_at "ev"
    by_cases e : itP28 ms t (j + 1) p = p
    · rw [e]
      refine v_neDs (inum 0) (by omega) ⟨_, rfl, ?_⟩
      rw [if_neg Bool.false_ne_true]
      have hjp : j = perP28 ms hs.length t p := by
        rcases Nat.lt_or_ge j (perP28 ms hs.length t p) with z | z
        · exact absurd e (s3 j z)
        · omega
      refine s_freeze (i := 3) rfl ?_
      walk_at "ro"
      refine s_ret (e_var rfl ?_)
      rw [hjp]
      unfold ringP28
      rw [List.map_map]
      rfl
    · refine v_neDo (inum (j + 1)) (inum 0) (by omega) (by omega) (fun z => e (dsp _ _ z)) ⟨_, rfl, ?_⟩
      rw [if_pos rfl]
      have hjp : j < perP28 ms hs.length t p := by
        rcases Nat.lt_or_ge j (perP28 ms hs.length t p) with z | z
        · exact z
        · exact absurd (by rw [show j = perP28 ms hs.length t p by omega]; exact s2) e
      refine s_seq (s_app (i := 3) rfl (by rw [List.length_map, List.length_range]; omega) ?_)
      walk_at "ev"
      walk_at "ro"
      walk_at "ev"
      refine ⟨⟨ms, hs, t, _, rfl, hM, h16, ht, ipl (j + 1)⟩, ?_⟩
      rw [fLe_is]
      refine ⟨q - 1, by omega, rfl, j + 1, by omega, ?_⟩
      rw [List.range_succ (n := j + 1), List.map_append]
      rfl

theorem ok_doubled_times {f : Addr} {fd : FuncData} (F : Fun K "doubled_times" "doubled_times" s_doubled_times f fd)
    {f_still_turning : Addr} {fd_still_turning : FuncData} (F_still_turning : Fun K "still_turning" "still_turning" s_still_turning f_still_turning fd_still_turning)
    (G_still_turning : FnOk P w K mg base CX0 3 f_still_turning fd_still_turning ["frame"] (SpP K (preFr cFrame) fSt))
    (g_still_turning : mg "still_turning" = some (.ref f_still_turning))
    {f_put_behind : Addr} {fd_put_behind : FuncData} (F_put_behind : Fun K "put_behind" "put_behind" s_put_behind f_put_behind fd_put_behind)
    (G_put_behind : FnOk P w K mg base CX0 3 f_put_behind fd_put_behind ["frame", "first", "second"] (SpP K (preBh cFrame) fBh))
    (g_put_behind : mg "put_behind" = some (.ref f_put_behind)) :
    FnOk P w K mg base CX0 4 f fd ["frame", "turning", "times"] (SpP K (preDt26 cFrame) fDt26) := by
  refine F.ok sc_doubled_times (fun vs H Q E h => ?len) (fun cdv A outer s H vs Q E hr h => ⟨_, (pss_cons (ps_set (i := 3) sc_doubled_times.nd rfl (by first | exact Or.inl rfl | exact Or.inr rfl) (pe_call G_still_turning (hr.mono (by decide)) (by rfl) g_still_turning F_still_turning.kp (bi_still_turning F_still_turning) .nil pass0 (pa_cons (pv 0) pa_nil)))
      (pss_cons (ps_set (i := 4) sc_doubled_times.nd rfl (by first | exact Or.inl rfl | exact Or.inr rfl) (pv 1))
      (pss_cons (ps_set (i := 5) sc_doubled_times.nd rfl (by first | exact Or.inl rfl | exact Or.inr rfl) (pv 2))
      (pss_cons (ps_while PassesOwn.never (pt_cmpR op_gt (pv 5) pe_int (nomark _)) (pss_cons (ps_if (pt_cmpR op_eq (pe_op op_mod (pv 5) pe_int) pe_int (nomark _)) (pss_one (ps_set (i := 3) sc_doubled_times.nd rfl (by first | exact Or.inl rfl | exact Or.inr rfl) (pe_call G_put_behind (hr.mono (by decide)) (by rfl) g_put_behind F_put_behind.kp (bi_put_behind F_put_behind) .nil pass0 (pa_cons (pv 0) (pa_cons (pv 3) (pa_cons (pv 4) pa_nil)))))) pss_nil)
      (pss_cons (ps_set (i := 4) sc_doubled_times.nd rfl (by first | exact Or.inl rfl | exact Or.inr rfl) (pe_call G_put_behind (hr.mono (by decide)) (by rfl) g_put_behind F_put_behind.kp (bi_put_behind F_put_behind) .nil pass0 (pa_cons (pv 0) (pa_cons (pv 4) (pa_cons (pv 4) pa_nil)))))
      (pss_one (ps_aug (i := 5) sc_doubled_times.nd rfl (by first | exact Or.inl rfl | exact Or.inr rfl) pe_int iop_fdiv)))))
      (pss_one (ps_ret (pv 3))))))), ?r⟩)
  case len =>
    obtain ⟨B, ds, _, is, ⟨ms, hs, t, k, rfl, _⟩, _⟩ := h
    exact is.length
  case r =>
    refine body_P h fun ds hp hl => ?_
    obtain ⟨ms, hs, t, k, rfl, hM, h16, ht⟩ := hp
    rw [fDt26_is]
    walk_at "body"
    walk_at "ev"
    refine ⟨⟨ms, hs, rfl, hM, h16⟩, ?_⟩
    rw [fSt_is]
    walk_at "ro"
    walk_at "ev"
    refine s_seq (s_while (q0 := k) (I := fun q n ρ' => ∃ e d : Nat, e + d * q = k ∧ ρ' = [some (.dat (frD cFrame ms hs)), some (.dat (dturn t)), some (.dat (.int k)), some (.dat (dturn (powT26 ms hs.length t e))), some (.dat (dturn (powT26 ms hs.length t d))), some (.dat (.int q))])
      ⟨0, 1, by omega, by rw [pow_one26 hM ht]; rfl⟩ ?_)
    intro q n ρ' hI
    obtain ⟨e, d, hk, rfl⟩ := hI
    have te := pow_turn26 hM ht e
    have td := pow_turn26 hM ht d
    walk_at "ev"
    by_cases hq : 0 < q
    · rw [if_pos (decide_eq_true (show (0 : Int) < (q : Int) by omega))]
      refine s_seq (s_imp (Nx := fun n2 ρ2 => n2 = n ∧ ρ2 = [some (.dat (frD cFrame ms hs)), some (.dat (dturn t)), some (.dat (.int k)), some (.dat (dturn (powT26 ms hs.length t (e + d * (q % 2))))), some (.dat (dturn (powT26 ms hs.length t d))), some (.dat (.int q))]) ?_ (fun n2 ρ2 q2 => ?_) (fun _ _ q => q))
      · walk_at "ev"
        by_cases h1 : q % 2 = 1
        · rw [if_pos (decide_eq_true (show ((q : Int) % 2) = 1 by omega)), h1]
          walk_at "ev"
          refine ⟨⟨ms, hs, _, _, rfl, hM, h16, te, td⟩, ?_⟩
          rw [fBh_is, pow_add26 hM ht, Nat.mul_one]
          exact ⟨rfl, rfl⟩
        · rw [if_neg (by rw [decide_eq_false (show ¬ ((q : Int) % 2) = 1 by omega)]; exact Bool.false_ne_true), show q % 2 = 0 by omega]
          exact s_next ⟨rfl, rfl⟩
      · obtain ⟨rfl, rfl⟩ := q2
        walk_at "ev"
        refine ⟨⟨ms, hs, _, _, rfl, hM, h16, td, td⟩, ?_⟩
        rw [fBh_is, pow_add26 hM ht]
        refine s_aug rfl ?_
        walk_at "ev"
        refine ⟨q / 2, by omega, e + d * (q % 2), d + d, ?_, by rw [Int.natCast_ediv]; rfl⟩
        have e1 := Nat.div_add_mod q 2
        rw [← Nat.two_mul, Nat.mul_comm 2 d, Nat.mul_assoc, Nat.add_assoc, ← Nat.mul_add, show q % 2 + 2 * (q / 2) = q by omega]
        exact hk
    · rw [if_neg (by rw [decide_eq_false (show ¬ (0 : Int) < (q : Int) by omega)]; exact Bool.false_ne_true)]
      have h0 : q = 0 := by omega
      rw [h0, Nat.mul_zero, Nat.add_zero] at hk
      rw [hk]
      refine s_next ?_
      walk_at "ev"
      rfl

theorem ok_are_hues {f : Addr} {fd : FuncData} (F : Fun K "are_hues" "are_hues" s_are_hues f fd)
    {f_is_within : Addr} {fd_is_within : FuncData} (F_is_within : Fun K "is_within" "is_within" s_is_within f_is_within fd_is_within)
    (G_is_within : FnOk P w K mg base CX0 2 f_is_within fd_is_within ["thing", "least", "most"] (SpP K preWithin fWithin))
    (g_is_within : mg "is_within" = some (.ref f_is_within))
    {f_is_hue : Addr} {fd_is_hue : FuncData} (F_is_hue : Fun K "is_hue" "is_hue" s_is_hue f_is_hue fd_is_hue)
    (G_is_hue : FnOk P w K mg base CX0 3 f_is_hue fd_is_hue ["thing"] (SpP K preWhole fHue))
    (g_is_hue : mg "is_hue" = some (.ref f_is_hue))
    {t_LEAST_STEMS : Tok} (c_LEAST_STEMS : mg "LEAST_STEMS" = some (.int 2 t_LEAST_STEMS))
    {t_MOST_STEMS : Tok} (c_MOST_STEMS : mg "MOST_STEMS" = some (.int 16 t_MOST_STEMS))
    (m_all : mg "all" = none)
    (m_isinstance : mg "isinstance" = none)
    (m_len : mg "len" = none)
    (m_tuple : mg "tuple" = none) :
    FnOk P w K mg base CX0 4 f fd ["thing"] (SpP K preMeas fHues) := by
  refine F.ok sc_are_hues (fun vs H Q E h => ?len) (fun cdv A outer s H vs Q E hr h => ⟨_, (pss_cons (ps_if (PW.pt (pw_or (pt_not (pt_val (pe_callB (show CallR _ _ (rIsi K) from call_isi) (by rfl) m_isinstance (by decide +kernel) (pa_cons (pv 0) (pa_cons (pe_bltn (v := .ty "tuple") (by rfl) m_tuple (by decide +kernel) rfl) pa_nil))))) (pw_or1 (pt_not (pt_val (pe_call G_is_within (hr.mono (by decide)) (by rfl) g_is_within F_is_within.kp (bi_is_within F_is_within) .nil pass0 (pa_cons (pe_callB (show CallR _ _ (rLenQ K) from call_len_seq) (by rfl) m_len (by decide +kernel) (pa_cons (pv 0) pa_nil)) (pa_cons (pe_glob (v := .int 2) (by rfl) c_LEAST_STEMS ⟨_, rfl⟩) (pa_cons (pe_glob (v := .int 16) (by rfl) c_MOST_STEMS ⟨_, rfl⟩) pa_nil))))))))) (pss_one (ps_ret pe_bl)) pss_nil)
      (pss_one (ps_ret (pe_callB (show CallR _ _ (rAll K) from cr_all rfl) (by rfl) m_all (by decide +kernel) (pa_cons (pe_lc (own := [("hue", 1)]) (g := gName 1) (tt := tYes) rfl sc_are_hues.nd (pi_tup (pv 0)) (blkOk_by (own := [("hue", 1)]) (N := ["thing", "hue"]) (sc := defScope s_are_hues) (by decide +kernel)) (fun _ _ _ _ _ => (pg_name (i := 1) sc_are_hues.nd rfl (by first | exact Or.inl rfl | exact Or.inr rfl))) (fun _ _ _ _ _ => pts_nil) (fun _ _ _ _ _ => (pe_call G_is_hue (hr.mono (by decide)) (by rfl) g_is_hue F_is_hue.kp (bi_is_hue F_is_hue) .nil pass0 (pa_cons (pv 1) pa_nil)))) pa_nil))))), ?r⟩)
  case len =>
    obtain ⟨B, ds, _, is, ⟨d, rfl, _⟩, _⟩ := h
    exact is.length
  case r =>
    refine body_P h fun ds hp hl => ?_
    obtain ⟨d, rfl, hpl⟩ := hp
    have ho : d.own = false := plain_own hpl
    walk_at "body"
    refine s_seq (s_if (t_or (t_not (t_B (e_isi kit_tup (e_var rfl ⟨ho, _, rfl, ?_⟩))))))
    cases d with
    | tup xs =>
      show TvC _ _ _ _ _ _
      refine t_not (t_B ?_)
      walk_at "ev"
      refine ⟨⟨_, _, _, rfl, rfl⟩, _, rfl, ?_⟩
      have ew : D.within 2 16 (.int xs.length) = (decide (2 ≤ xs.length) && decide (xs.length ≤ 16)) := by
        rw [D.within]
        congr 1
        · simp only [decide_eq_decide]; omega
        · simp only [decide_eq_decide]; omega
      cases e : D.within 2 16 (.int xs.length) with
      | false =>
        refine s_ret (e_bl ?_)
        show D.bl false = .bl (D.huesB (.tup xs))
        rw [D.huesB, ← ew, e]; rfl
      | true =>
        refine s_next ?_
        have hlen : xs.length ≤ 16 := by
          rw [e] at ew
          have := ew.symm
          rw [Bool.and_eq_true, decide_eq_true_eq, decide_eq_true_eq] at this
          exact this.2
        have hpx : ∀ x ∈ xs, x.own = false := fun x hx => plain_own (plains_mem (by simpa [D.plain] using hpl) hx)
        refine s_ret (e_cb (a_cons (e_lcT rfl (e_var rfl ⟨xs, rfl, by omega, fun i _ acc => acc = ((xs.take i).map (D.within 0 9)).map D.bl, rfl, ?_, ?_⟩))))
        · intro i n acc d hd hI _
          walk_at "ev"
          refine ⟨⟨_, rfl, hpx d (List.mem_of_getElem? hd)⟩, ?_⟩
          subst hI
          rw [List.take_add_one, hd]
          simp [fHue]
        · intro n acc _ hI
          subst hI
          rw [List.take_length]
          refine a_nil (v_all ?_)
          have ea : ((xs.map (D.within 0 9)).all id) = xs.all (D.within 0 9) := by
            rw [List.all_map]; rfl
          rw [ea]
          show D.bl _ = .bl (D.huesB (.tup xs))
          rw [D.huesB, ← ew, e]; rfl
    | _ => exact s_ret (e_bl rfl)

theorem ok_turning_order {f : Addr} {fd : FuncData} (F : Fun K "turning_order" "turning_order" s_turning_order f fd)
    {f_common_multiple : Addr} {fd_common_multiple : FuncData} (F_common_multiple : Fun K "common_multiple" "common_multiple" s_common_multiple f_common_multiple fd_common_multiple)
    (G_common_multiple : FnOk P w K mg base CX0 2 f_common_multiple fd_common_multiple ["numbers"] (SpP K preCm26 fCm26))
    (g_common_multiple : mg "common_multiple" = some (.ref f_common_multiple))
    {f_tie_order : Addr} {fd_tie_order : FuncData} (F_tie_order : Fun K "tie_order" "tie_order" s_tie_order f_tie_order fd_tie_order)
    (G_tie_order : FnOk P w K mg base CX0 2 f_tie_order fd_tie_order ["measure", "tie"] (SpP K preOrd fOrd))
    (g_tie_order : mg "tie_order" = some (.ref f_tie_order))
    {f_doubled_times : Addr} {fd_doubled_times : FuncData} (F_doubled_times : Fun K "doubled_times" "doubled_times" s_doubled_times f_doubled_times fd_doubled_times)
    (G_doubled_times : FnOk P w K mg base CX0 4 f_doubled_times fd_doubled_times ["frame", "turning", "times"] (SpP K (preDt26 cFrame) fDt26))
    (g_doubled_times : mg "doubled_times" = some (.ref f_doubled_times))
    {f_stem_ring : Addr} {fd_stem_ring : FuncData} (F_stem_ring : Fun K "stem_ring" "stem_ring" s_stem_ring f_stem_ring fd_stem_ring)
    (G_stem_ring : FnOk P w K mg base CX0 1 f_stem_ring fd_stem_ring ["leads", "stem"] (SpP K preSr26 fSr26))
    (g_stem_ring : mg "stem_ring" = some (.ref f_stem_ring))
    (k_Frame : Own2 K cFrame "measure" "hues")
    (m_len : mg "len" = none) :
    FnOk P w K mg base CX0 5 f fd ["frame", "turning"] (SpP K (preTo26 cFrame) fTo26) := by
  refine F.ok sc_turning_order (fun vs H Q E h => ?len) (fun cdv A outer s H vs Q E hr h => ⟨_, (pss_cons (ps_set (i := 2) sc_turning_order.nd rfl (by first | exact Or.inl rfl | exact Or.inr rfl) (pe_call G_common_multiple (hr.mono (by decide)) (by rfl) g_common_multiple F_common_multiple.kp (bi_common_multiple F_common_multiple) .nil pass0 (pa_cons (pe_lc (own := [("stem", 5)]) (g := gName 5) (tt := tYes) rfl sc_turning_order.nd (pi_tup (pe_ix (show IxR _ (rIxT K) from ix_tup) (pv 1) pe_int (fun _ _ => rfl))) (blkOk_by (own := [("stem", 5)]) (N := ["frame", "turning", "turns", "leads", "moves", "stem", "row", "tie"]) (sc := defScope s_turning_order) (by decide +kernel)) (fun _ _ _ _ _ => (pg_name (i := 5) sc_turning_order.nd rfl (by first | exact Or.inl rfl | exact Or.inr rfl))) (fun _ _ _ _ _ => pts_nil) (fun _ _ _ _ _ => (pe_callB (show CallR _ _ (rLenQ K) from call_len_seq) (by rfl) m_len (by decide +kernel) (pa_cons (pe_call G_stem_ring (hr.mono (by decide)) (by rfl) g_stem_ring F_stem_ring.kp (bi_stem_ring F_stem_ring) .nil pass0 (pa_cons (pe_ix (show IxR _ (rIxT K) from ix_tup) (pv 1) pe_int (fun _ _ => rfl)) (pa_cons (pv 5) pa_nil))) pa_nil)))) pa_nil)))
      (pss_cons (ps_asg (pe_call G_doubled_times (hr.mono (by decide)) (by rfl) g_doubled_times F_doubled_times.kp (bi_doubled_times F_doubled_times) .nil pass0 (pa_cons (pv 0) (pa_cons (pv 1) (pa_cons (pv 2) pa_nil)))) (pg_tup rfl (pgs_cons (pg_name (i := 3) sc_turning_order.nd rfl (by first | exact Or.inl rfl | exact Or.inr rfl)) (pgs_cons (pg_name (i := 4) sc_turning_order.nd rfl (by first | exact Or.inl rfl | exact Or.inr rfl)) pgs_nil))))
      (pss_one (ps_ret (pe_op op_mul (pv 2) (pe_call G_common_multiple (hr.mono (by decide)) (by rfl) g_common_multiple F_common_multiple.kp (bi_common_multiple F_common_multiple) .nil pass0 (pa_cons (pe_lc2 (own := [("row", 6), ("tie", 7)]) (vs1 := [7]) (g := gName 6) (tt := tYes) (g1 := gName 7) (tt1 := tYes) rfl sc_turning_order.nd (pi_tup (pv 4)) (blkOk_by (own := [("row", 6), ("tie", 7)]) (N := ["frame", "turning", "turns", "leads", "moves", "stem", "row", "tie"]) (sc := defScope s_turning_order) (by decide +kernel)) (by decide) (fun _ _ _ _ _ => (pg_name (i := 6) sc_turning_order.nd rfl (by first | exact Or.inl rfl | exact Or.inr rfl))) (fun _ _ _ _ _ => pts_nil) (fun _ _ _ _ _ => (show PI _ _ _ (iTup K _) from pi_tup (pv 6))) (fun _ _ _ _ _ => (pg_name (i := 7) sc_turning_order.nd rfl (by first | exact Or.inl rfl | exact Or.inr rfl))) (fun _ _ _ _ _ => pts_nil) (fun _ _ _ _ _ => (pe_call G_tie_order (hr.mono (by decide)) (by rfl) g_tie_order F_tie_order.kp (bi_tie_order F_tie_order) .nil pass0 (pa_cons (pe_fldK (K := K) rfl (pv 0) rfl) (pa_cons (pv 7) pa_nil))))) pa_nil))))))), ?r⟩)
  case len =>
    obtain ⟨B, ds, _, is, ⟨ms, hs, t, rfl, _⟩, _⟩ := h
    exact is.length
  case r =>
    refine body_P h fun ds hp hl => ?_
    obtain ⟨ms, hs, t, rfl, hM, h16, ht⟩ := hp
    rw [fTo26_is]
    have hi := lead_inj26 ht.lead
    have htl := ht.lead.len
    walk_at "body"
    walk_at "ev"
    refine e_lcTf (j := 5) rfl ?_
    walk_at "ev"
    refine ⟨Nat, t.1, fun (x : Nat) => D.int (x : Int), fun x => .int ((per26 t.1 x + 1 : Nat) : Int), rfl, by omega, fun c x hx => ?_, ?_⟩
    · walk_at "ro"
      walk_at "ev"
      have hxt := List.mem_of_getElem? hx
      have hxl : x < t.1.length := by
        obtain ⟨k, hk⟩ := List.mem_iff_getElem?.mp hxt
        have := (ht.lead.hue k x hk).1
        omega
      refine ⟨⟨t.1, x, rfl, hi, by omega, hxl⟩, ?_⟩
      rw [fSr26_is]
      walk_at "ev"
      rw [dnats, List.length_map, ringN26, List.length_map, List.length_range]
    have hper : ∀ x ∈ t.1, per26 t.1 x + 1 ≤ 16 := fun x hx => by
      obtain ⟨k, hk⟩ := List.mem_iff_getElem?.mp hx
      have h1 := (ht.lead.hue k x hk).1
      have := (hi.per (x := x) (by omega)).1
      omega
    have em : (t.1.map fun x => D.int ((per26 t.1 x + 1 : Nat) : Int)) = dnats (t.1.map fun x => per26 t.1 x + 1) := by rw [dnats, List.map_map]; rfl
    rw [em]
    have hdv : ∀ x ∈ (t.1.map fun x => per26 t.1 x + 1), 0 < x ∧ x ∣ 720720 := fun y hy => by
      obtain ⟨x, hx, rfl⟩ := List.mem_map.mp hy
      exact ⟨Nat.succ_pos _, small_dvd26 _ (hper x hx) (Nat.succ_pos _)⟩
    have hTd := Nat.le_of_dvd (by omega) (lcmL_dvd _ fun x hx => (hdv x hx).2)
    refine a_nil ⟨⟨_, rfl, hdv⟩, ?_⟩
    rw [fCm26_is, show lcmL (t.1.map fun x => per26 t.1 x + 1) = turns26 t from rfl]
    rw [show lcmL (t.1.map fun x => per26 t.1 x + 1) = turns26 t from rfl] at hTd
    walk_at "ro"
    walk_at "ev"
    refine ⟨⟨ms, hs, t, _, rfl, hM, h16, ht⟩, ?_⟩
    rw [fDt26_is]
    have hp := pow_turn26 hM ht (turns26 t)
    obtain ⟨u, eu⟩ : ∃ u, u = powT26 ms hs.length t (turns26 t) := ⟨_, rfl⟩
    rw [← eu] at hp ⊢
    refine ⟨_, _, rfl, ?_⟩
    walk_at "ro"
    walk_at "ev"
    refine e_lc2xf (i := 6) (j := 7) rfl rfl (by decide) ?_
    refine i_tup ?_
    walk_at "ev"
    have hrow : ∀ r ∈ u.2, r.length ≤ 16 ∧ ∀ t ∈ r, TieP ms t := fun r hr => by
      obtain ⟨k, hk⟩ := List.mem_iff_getElem?.mp hr
      have h1 := hp.tab.2 k r hk
      have h2 := (List.getElem?_eq_some_iff.mp hk).1
      have h3 := hp.tab.1
      exact ⟨by omega, h1.2⟩
    refine ⟨List (List Int), List Int, u.2, id, fun r => .tup (r.map fun t => .tup (dints t)), fun _ t => .tup (dints t), fun _ _ => true, fun _ t => .int (ordF ms t : Nat), rfl, ?_, fun c r hr => ?_, ?_⟩
    · have h3 := hp.tab.1
      refine Nat.le_trans (flat_len92 (b := 16) fun r hr => (hrow r hr).1) ?_
      omega
    · refine i_tup ?_
      walk_at "ro"
      walk_at "ev"
      refine ⟨fun k b hb => ?_, fun k b hb _ => ?_⟩
      · exact t_yes26 ⟨rfl, rfl⟩
      · have hbT := (hrow r (List.mem_of_getElem? hr)).2 b (List.mem_of_getElem? hb)
        walk_at "ro"
        walk_at "ev"
        refine ⟨⟨ms, b, rfl, hM, hbT⟩, ?_⟩
        rw [show fOrd [.tup (dints ms), .tup (dints b)] = .int (ordF ms b) by rw [fOrd, uints_dints, uints_dints]]
        try exact ⟨rfl, rfl⟩
    have eL : (u.2.flatMap fun a => ((id a).filter fun _ => true).map fun t => D.int (ordF ms t : Nat)) = dnats (u.2.flatMap fun r => r.map (ordF ms)) := by
      rw [dnats, List.map_flatMap]
      congr 1
      funext r
      rw [List.map_map, List.filter_eq_self.mpr fun _ _ => rfl]
      rfl
    rw [show (u.2.flatMap fun a => List.map ((fun x t => D.int (ordF ms t : Nat)) a) (List.filter ((fun x x_1 => true) a) (id a))) = dnats (u.2.flatMap fun r => r.map (ordF ms)) from eL]
    have hdv2 : ∀ x ∈ u.2.flatMap (fun r => r.map (ordF ms)), 0 < x ∧ x ∣ 720720 := fun x hx => by
      obtain ⟨r, hr, hx⟩ := List.mem_flatMap.mp hx
      obtain ⟨b, hb, rfl⟩ := List.mem_map.mp hx
      exact ord_dvd60 hM ((hrow r hr).2 b hb)
    have hOd := Nat.le_of_dvd (by omega) (lcmL_dvd _ fun x hx => (hdv2 x hx).2)
    refine a_nil ⟨⟨_, rfl, hdv2⟩, ?_⟩
    rw [fCm26_is]
    refine v_I (show CMul _ _ by unfold CMul; omega) ?_
    rw [ord26, ← eu, Int.natCast_mul]

theorem ok_Frame_init {f : Addr} {fd : FuncData} (F : Fun K "__init__" "Frame.__init__" s_Frame_init f fd)
    {f_is_measure : Addr} {fd_is_measure : FuncData} (F_is_measure : Fun K "is_measure" "is_measure" s_is_measure f_is_measure fd_is_measure)
    (G_is_measure : FnOk P w K mg base CX0 3 f_is_measure fd_is_measure ["thing"] (SpP K preMeas fMeas))
    (g_is_measure : mg "is_measure" = some (.ref f_is_measure))
    {f_are_hues : Addr} {fd_are_hues : FuncData} (F_are_hues : Fun K "are_hues" "are_hues" s_are_hues f_are_hues fd_are_hues)
    (G_are_hues : FnOk P w K mg base CX0 4 f_are_hues fd_are_hues ["thing"] (SpP K preMeas fHues))
    (g_are_hues : mg "are_hues" = some (.ref f_are_hues))
    (k_Frame : Own2 K cFrame "measure" "hues") :
    FnOk P w K mg base CX0 5 f fd ["self", "measure", "hues"] (SpI K cFrame "measure" "hues" preFrame) := by
  refine F.ok sc_Frame_init (fun vs H Q E h => ?len) (fun cdv A outer s H vs Q E hr h => ⟨_, (pss_cons (ps_if (pt_not (pt_val (pe_call G_is_measure (hr.mono (by decide)) (by rfl) g_is_measure F_is_measure.kp (bi_is_measure F_is_measure) .nil pass0 (pa_cons (pv 1) pa_nil)))) (pss_one ps_never) pss_nil)
      (pss_cons (ps_if (pt_not (pt_val (pe_call G_are_hues (hr.mono (by decide)) (by rfl) g_are_hues F_are_hues.kp (bi_are_hues F_are_hues) .nil pass0 (pa_cons (pv 2) pa_nil)))) (pss_one ps_never) pss_nil)
      (pss_cons (ps_fldK (K := K) rfl (pv 0) (pv 1) rfl)
      (pss_one (ps_fldK (K := K) rfl (pv 0) (pv 2) rfl))))), ?r⟩)
  case len =>
    obtain ⟨x, dx, B, v1, v2, d1, d2, rfl, _⟩ := h
    rfl
  case r =>
    refine body_I rfl k_Frame (by decide) h fun d1 d2 hp => ?_
    obtain ⟨ms, hs, e, hm, hh⟩ := hp
    cases e
    refine ⟨?_, fun n => ?_⟩
    · refine t_not (t_B ?_)
      walk_at "ev"
      refine ⟨⟨_, rfl, plain_ints ms⟩, _, rfl, ?_⟩
      rw [meas_of hm]; rfl
    · refine t_not (t_B ?_)
      walk_at "ev"
      refine ⟨⟨_, rfl, plain_ints hs⟩, _, rfl, ?_⟩
      rw [hues_of hh]; rfl

theorem ok_turn_times {f : Addr} {fd : FuncData} (F : Fun K "turn_times" "turn_times" s_turn_times f fd)
    {f_doubled_times : Addr} {fd_doubled_times : FuncData} (F_doubled_times : Fun K "doubled_times" "doubled_times" s_doubled_times f_doubled_times fd_doubled_times)
    (G_doubled_times : FnOk P w K mg base CX0 4 f_doubled_times fd_doubled_times ["frame", "turning", "times"] (SpP K (preDt26 cFrame) fDt26))
    (g_doubled_times : mg "doubled_times" = some (.ref f_doubled_times))
    {f_turning_order : Addr} {fd_turning_order : FuncData} (F_turning_order : Fun K "turning_order" "turning_order" s_turning_order f_turning_order fd_turning_order)
    (G_turning_order : FnOk P w K mg base CX0 5 f_turning_order fd_turning_order ["frame", "turning"] (SpP K (preTo26 cFrame) fTo26))
    (g_turning_order : mg "turning_order" = some (.ref f_turning_order)) :
    FnOk P w K mg base CX0 6 f fd ["frame", "turning", "times"] (SpP K (preTt26 cFrame) fTt26) := by
  refine F.ok sc_turn_times (fun vs H Q E h => ?len) (fun cdv A outer s H vs Q E hr h => ⟨_, (pss_one (ps_ret (pe_call G_doubled_times (hr.mono (by decide)) (by rfl) g_doubled_times F_doubled_times.kp (bi_doubled_times F_doubled_times) .nil pass0 (pa_cons (pv 0) (pa_cons (pv 1) (pa_cons (pe_op op_mod (pv 2) (pe_call G_turning_order (hr.mono (by decide)) (by rfl) g_turning_order F_turning_order.kp (bi_turning_order F_turning_order) .nil pass0 (pa_cons (pv 0) (pa_cons (pv 1) pa_nil)))) pa_nil)))))), ?r⟩)
  case len =>
    obtain ⟨B, ds, _, is, ⟨ms, hs, t, k, rfl, _⟩, _⟩ := h
    exact is.length
  case r =>
    refine body_P h fun ds hp hl => ?_
    obtain ⟨ms, hs, t, k, rfl, hM, h16, ht⟩ := hp
    rw [fTt26_is]
    have hpos := ord_pos26 hM ht
    have hk0 := Int.emod_nonneg k (show ((ord26 ms hs.length t : Nat) : Int) ≠ 0 by omega)
    walk_at "body"
    walk_at "ev"
    refine ⟨⟨ms, hs, t, rfl, hM, h16, ht⟩, ?_⟩
    rw [fTo26_is]
    refine v_I (show (0 : Int) < ((ord26 ms hs.length t : Nat) : Int) by omega) ?_
    refine a_nil ?_
    have e : k % ((ord26 ms hs.length t : Nat) : Int) = (((k % ((ord26 ms hs.length t : Nat) : Int)).toNat : Nat) : Int) := (Int.toNat_of_nonneg hk0).symm
    rw [e]
    refine ⟨⟨ms, hs, t, _, rfl, hM, h16, ht⟩, ?_⟩
    rw [fDt26_is, ← e]

theorem ok_stays {f : Addr} {fd : FuncData} (F : FunT K "stays" "stays" s_stays [.int 1] f fd)
    {f_turn_times : Addr} {fd_turn_times : FuncData} (F_turn_times : Fun K "turn_times" "turn_times" s_turn_times f_turn_times fd_turn_times)
    (G_turn_times : FnOk P w K mg base CX0 6 f_turn_times fd_turn_times ["frame", "turning", "times"] (SpP K (preTt26 cFrame) fTt26))
    (g_turn_times : mg "turn_times" = some (.ref f_turn_times))
    {f_stem_stays : Addr} {fd_stem_stays : FuncData} (F_stem_stays : Fun K "stem_stays" "stem_stays" s_stem_stays f_stem_stays fd_stem_stays)
    (G_stem_stays : FnOk P w K mg base CX0 3 f_stem_stays fd_stem_stays ["frame", "turning", "stem"] (SpP K (preSs31 cFrame) fSs31))
    (g_stem_stays : mg "stem_stays" = some (.ref f_stem_stays))
    (m_enumerate : mg "enumerate" = none)
    (m_sum : mg "sum" = none) :
    FnOk P w K mg base CX0 7 f fd ["frame", "turning", "times"] (SpP K (preSy31 cFrame) fSy31) := by
  refine okT F sc_stays (fun vs H Q E h => ?len) (fun cdv A outer s H vs Q E hr h => ⟨_, (pss_cons (ps_set (i := 3) sc_stays.nd rfl (by first | exact Or.inl rfl | exact Or.inr rfl) (pe_call G_turn_times (hr.mono (by decide)) (by rfl) g_turn_times F_turn_times.kp (bi_turn_times F_turn_times) .nil pass0 (pa_cons (pv 0) (pa_cons (pv 1) (pa_cons (pv 2) pa_nil)))))
      (pss_one (ps_ret (pe_callB (cr_sum rfl) (by rfl) m_sum (by decide +kernel) (pa_cons (pe_lc (own := [("stem", 4), ("led", 5)]) (g := gTup K 2 (gCons (gName 4) (gCons (gName 5) gNil))) rfl sc_stays.nd (pi_enT (by rfl) m_enumerate (pa_cons (pe_ix (show IxR _ (rIxT K) from ix_tup) (pv 3) pe_int (fun _ _ => rfl)) pa_nil)) (blkOk_by (own := [("stem", 4), ("led", 5)]) (N := ["frame", "turning", "times", "done", "stem", "led"]) (sc := defScope s_stays) (by decide +kernel)) (fun _ _ _ _ _ => (pg_tup rfl (pgs_cons (pg_name (i := 4) sc_stays.nd rfl (by first | exact Or.inl rfl | exact Or.inr rfl)) (pgs_cons (pg_name (i := 5) sc_stays.nd rfl (by first | exact Or.inl rfl | exact Or.inr rfl)) pgs_nil)))) (fun _ _ _ _ _ => (pts_one (pt_cmpR op_eq (pv 5) (pv 4) (nomark _)))) (fun _ _ _ _ _ => (pe_call G_stem_stays (hr.mono (by decide)) (by rfl) g_stem_stays F_stem_stays.kp (bi_stem_stays F_stem_stays) .nil pass0 (pa_cons (pv 0) (pa_cons (pv 3) (pa_cons (pv 4) pa_nil)))))) pa_nil))))), ?r⟩)
  case len =>
    obtain ⟨B, ds, _, is, ⟨ms, hs, t, k, rfl, _⟩, _⟩ := h
    exact is.length
  case r =>
    refine body_P h fun ds hp hl => ?_
    obtain ⟨ms, hs, t, k, rfl, hM, h16, ht⟩ := hp
    have htl := ht.lead.len
    rw [fSy31_is, htl]
    walk_at "body"
    walk_at "ev"
    refine ⟨⟨ms, hs, t, k, rfl, hM, h16, ht⟩, ?_⟩
    rw [fTt26_is]
    have hu := pow_turn26 hM ht (k % (ord26 ms hs.length t : Nat)).toNat
    generalize powT26 ms hs.length t (k % (ord26 ms hs.length t : Nat)).toNat = u at hu ⊢
    have hul := hu.lead.len
    walk_at "ev"
    refine e_lcExf (i := 4) (j := 5) rfl rfl ?_
    walk_at "ev"
    refine ⟨Nat, u.1, fun (x : Nat) => D.int (x : Int), fun i _ => .int (stem31 ms u i), fun i x => decide (x = i), rfl, by omega, fun c x hx => ?_, fun c x hx hp => ?_, ?_⟩
    · walk_at "ro"
      walk_at "ev"
      by_cases e : x = c
      · rw [decide_eq_true e, decide_eq_true (show (x : Int) = (c : Int) by omega)]
      · rw [decide_eq_false e, decide_eq_false (show ¬ (x : Int) = (c : Int) by omega)]
    · have hc := (List.getElem?_eq_some_iff.mp hx).1
      have hxc := of_decide_eq_true hp
      subst hxc
      walk_at "ro"
      walk_at "ev"
      refine ⟨⟨ms, hs, u, _, rfl, hM, h16, hu, by omega, by rw [List.getD_eq_getElem?_getD, hx]; rfl⟩, ?_⟩
      rw [fSs31_is]
      exact ⟨rfl, rfl⟩
    · rw [stays_zip31]
      refine a_nil (v_sumL ?_)
      rw [stays31]

theorem ok_law {f : Addr} {fd : FuncData} (F : Fun K "law" "law" s_law f fd)
    {f_turning_count : Addr} {fd_turning_count : FuncData} (F_turning_count : Fun K "turning_count" "turning_count" s_turning_count f_turning_count fd_turning_count)
    (G_turning_count : FnOk P w K mg base CX0 3 f_turning_count fd_turning_count ["frame"] (SpP K (preTcn14 cFrame) fTcn14))
    (g_turning_count : mg "turning_count" = some (.ref f_turning_count))
    {f_turning_order : Addr} {fd_turning_order : FuncData} (F_turning_order : Fun K "turning_order" "turning_order" s_turning_order f_turning_order fd_turning_order)
    (G_turning_order : FnOk P w K mg base CX0 5 f_turning_order fd_turning_order ["frame", "turning"] (SpP K (preTo26 cFrame) fTo26))
    (g_turning_order : mg "turning_order" = some (.ref f_turning_order))
    {f_times_to : Addr} {fd_times_to : FuncData} (F_times_to : Fun K "times_to" "times_to" s_times_to f_times_to fd_times_to)
    (G_times_to : FnOk P w K mg base CX0 3 f_times_to fd_times_to ["frame", "turning", "one", "other"] (SpP K (preTi28 cFrame) fTi28))
    (g_times_to : mg "times_to" = some (.ref f_times_to))
    {f_Frame_init : Addr} {fd_Frame_init : FuncData} (F_Frame_init : Fun K "__init__" "Frame.__init__" s_Frame_init f_Frame_init fd_Frame_init)
    (G_Frame_init : FnOk P w K mg base CX0 5 f_Frame_init fd_Frame_init ["self", "measure", "hues"] (SpI K cFrame "measure" "hues" preFrame))
    {f_stays : Addr} {fd_stays : FuncData} (F_stays : FunT K "stays" "stays" s_stays [.int 1] f_stays fd_stays)
    (G_stays : FnOk P w K mg base CX0 7 f_stays fd_stays ["frame", "turning", "times"] (SpP K (preSy31 cFrame) fSy31))
    (g_stays : mg "stays" = some (.ref f_stays))
    {f__law_hand : Addr} {fd__law_hand : FuncData} (F__law_hand : Fun K "_law_hand" "_law_hand" s__law_hand f__law_hand fd__law_hand)
    (G__law_hand : FnOk P w K mg base CX0 1 f__law_hand fd__law_hand ["_law_script", "_law_k"] (SpR K preHand fun _ d => isHand d))
    (g__law_hand : mg "_law_hand" = some (.ref f__law_hand))
    {f__law_of : Addr} {fd__law_of : FuncData} (F__law_of : Fun K "_law_of" "_law_of" s__law_of f__law_of fd__law_of)
    (G__law_of : FnOk P w K mg base CX0 2 f__law_of fd__law_of ["_law_hand_here", "_law_some"] (SpOfV K))
    (g__law_of : mg "_law_of" = some (.ref f__law_of))
    {f__law_behind : Addr} {fd__law_behind : FuncData} (F__law_behind : Fun K "_law_behind" "_law_behind" s__law_behind f__law_behind fd__law_behind)
    (G__law_behind : FnOk P w K mg base CX0 2 f__law_behind fd__law_behind ["_law_scale", "_law_first", "_law_second"] (SpP K preLbh fLbh))
    (g__law_behind : mg "_law_behind" = some (.ref f__law_behind))
    {f__law_still : Addr} {fd__law_still : FuncData} (F__law_still : Fun K "_law_still" "_law_still" s__law_still f__law_still fd__law_still)
    (G__law_still : FnOk P w K mg base CX0 1 f__law_still fd__law_still ["_law_scale", "_law_size"] (SpP K preLs fLs))
    (g__law_still : mg "_law_still" = some (.ref f__law_still))
    {f__law_turnings : Addr} {fd__law_turnings : FuncData} (F__law_turnings : Fun K "_law_turnings" "_law_turnings" s__law_turnings f__law_turnings fd__law_turnings)
    (G__law_turnings : FnOk P w K mg base CX0 3 f__law_turnings fd__law_turnings ["_law_scale", "_law_hues"] (SpP K preTs35 fTs35))
    (g__law_turnings : mg "_law_turnings" = some (.ref f__law_turnings))
    {f__law_places : Addr} {fd__law_places : FuncData} (F__law_places : Fun K "_law_places" "_law_places" s__law_places f__law_places fd__law_places)
    (G__law_places : FnOk P w K mg base CX0 2 f__law_places fd__law_places ["_law_scale", "_law_size"] (SpP K prePl43 fPl43))
    (g__law_places : mg "_law_places" = some (.ref f__law_places))
    {f__law_little : Addr} {fd__law_little : FuncData} (F__law_little : Fun K "_law_little" "_law_little" s__law_little f__law_little fd__law_little)
    (G__law_little : FnOk P w K mg base CX0 3 f__law_little fd__law_little ["_law_hand_here"] (SpH K preLi35 psiLi35))
    (g__law_little : mg "_law_little" = some (.ref f__law_little))
    {f__law_ring : Addr} {fd__law_ring : FuncData} (F__law_ring : Fun K "_law_ring" "_law_ring" s__law_ring f__law_ring fd__law_ring)
    (G__law_ring : FnOk P w K mg base CX0 3 f__law_ring fd__law_ring ["_law_scale", "_law_turn", "_law_spot"] (SpP K preRi28 fRi28))
    (g__law_ring : mg "_law_ring" = some (.ref f__law_ring))
    (M_Frame : Mk K cFrame f_Frame_init) (g_Frame : mg "Frame" = some (.ref cFrame))
    (m_len : mg "len" = none)
    (m_max : mg "max" = none)
    (m_min : mg "min" = none)
    (m_range : mg "range" = none)
    (m_repr : mg "repr" = none)
    (m_set : mg "set" = none) :
    FnG P w K mg base CX0 8 f fd ["_law_script"] (SpP K preLaw0 fun _ => .bl true) := by
  obtain ⟨_, dv_stays_2, db_stays_2⟩ := db_stays_2 F_stays
  refine okG F sc_law (fun vs H Q E h => ?len) (fun cdv A outer s H vs Q E hG hr h => ⟨_, (pss_cons (ps_for PassesOwn.never rfl (pi_range1 rfl m_range (pa_cons (pe_callB (call_max2 rfl) (by rfl) m_max (by decide +kernel) (pa_cons pe_int (pa_cons (pe_callB (call_min2 rfl) (by rfl) m_min (by decide +kernel) (pa_cons pe_int (pa_cons (pe_callB (show CallR _ _ (rLenQ K) from call_len_seq) (by rfl) m_len (by decide +kernel) (pa_cons (pv 0) pa_nil)) pa_nil))) pa_nil))) pa_nil)) (pg_name (i := 1) sc_law.nd rfl (by first | exact Or.inl rfl | exact Or.inr rfl)) (pss_cons (ps_set (i := 2) sc_law.nd rfl (by first | exact Or.inl rfl | exact Or.inr rfl) (pe_call G__law_hand (hr.mono (by decide)) (by rfl) g__law_hand F__law_hand.kp (bi__law_hand F__law_hand) .nil pass0 (pa_cons (pv 0) (pa_cons (pv 1) pa_nil))))
      (pss_cons (ps_asg (pe_call G__law_little (hr.mono (by decide)) (by rfl) g__law_little F__law_little.kp (bi__law_little F__law_little) .nil pass0 (pa_cons (pv 2) pa_nil)) (pg_tup rfl (pgs_cons (pg_name (i := 4) sc_law.nd rfl (by first | exact Or.inl rfl | exact Or.inr rfl)) (pgs_cons (pg_name (i := 5) sc_law.nd rfl (by first | exact Or.inl rfl | exact Or.inr rfl)) pgs_nil))))
      (pss_cons (ps_par3 (i := 6) (j := 7) (l := 8) rfl sc_law.nd rfl rfl rfl (by decide) (by decide) (by decide) rfl rfl rfl (pa_cons (pe_make M_Frame G_Frame_init (hr.mono (by decide)) (by rfl) g_Frame (bi_Frame_init F_Frame_init) .nil pass0 (pa_cons (pv 4) (pa_cons (pv 5) pa_nil))) (pa_cons (pe_call G__law_turnings (hr.mono (by decide)) (by rfl) g__law_turnings F__law_turnings.kp (bi__law_turnings F__law_turnings) .nil pass0 (pa_cons (pv 4) (pa_cons (pv 5) pa_nil))) (pa_cons pe_int pa_nil))) (by rfl))
      (pss_cons (ps_par (i := 9) (j := 10) rfl sc_law.nd rfl rfl (by decide) rfl rfl (pa_cons (pe_call G__law_still (hr.mono (by decide)) (by rfl) g__law_still F__law_still.kp (bi__law_still F__law_still) .nil pass0 (pa_cons (pv 4) (pa_cons (pe_callB (show CallR _ _ (rLenQ K) from call_len_seq) (by rfl) m_len (by decide +kernel) (pa_cons (pv 5) pa_nil)) pa_nil))) (pa_cons (pe_call G__law_places (hr.mono (by decide)) (by rfl) g__law_places F__law_places.kp (bi__law_places F__law_places) .nil pass0 (pa_cons (pv 4) (pa_cons (pe_callB (show CallR _ _ (rLenQ K) from call_len_seq) (by rfl) m_len (by decide +kernel) (pa_cons (pv 5) pa_nil)) pa_nil))) pa_nil)) (by rfl))
      (pss_cons (ps_if (pt_cmpR op_ne (pe_callB (show CallR _ _ (rRepr K) from call_reprD hG hr) (by rfl) m_repr (by decide +kernel) (pa_cons (pe_call G_turning_count (hr.mono (by decide)) (by rfl) g_turning_count F_turning_count.kp (bi_turning_count F_turning_count) .nil pass0 (pa_cons (pv 6) pa_nil)) pa_nil)) (pe_callB (show CallR _ _ (rRepr K) from call_reprD hG hr) (by rfl) m_repr (by decide +kernel) (pa_cons (pe_callB (show CallR _ _ (rLenQ K) from call_len_seq) (by rfl) m_len (by decide +kernel) (pa_cons (pv 7) pa_nil)) pa_nil)) (nomark _)) (pss_one (ps_ret pe_bl)) pss_nil)
      (pss_cons (ps_for PassesOwn.never rfl (pi_list (pv 7)) (pg_name (i := 3) sc_law.nd rfl (by first | exact Or.inl rfl | exact Or.inr rfl)) (pss_cons (ps_par (i := 13) (j := 14) rfl sc_law.nd rfl rfl (by decide) rfl rfl (pa_cons (pv 3) (pa_cons pe_int pa_nil)) (by rfl))
      (pss_cons (ps_while PassesOwn.never (pt_cmpR (show OpR _ _ (rNeD K) from op_neD hr.units) (pv 13) (pv 9) (nomark _)) (pss_one (ps_par (i := 13) (j := 14) rfl sc_law.nd rfl rfl (by decide) rfl rfl (pa_cons (pe_call G__law_behind (hr.mono (by decide)) (by rfl) g__law_behind F__law_behind.kp (bi__law_behind F__law_behind) .nil pass0 (pa_cons (pv 4) (pa_cons (pv 13) (pa_cons (pv 3) pa_nil)))) (pa_cons (pe_op op_add (pv 14) pe_int) pa_nil)) (by rfl))))
      (pss_cons (ps_if (pt_cmpR op_ne (pe_callB (show CallR _ _ (rRepr K) from call_reprD hG hr) (by rfl) m_repr (by decide +kernel) (pa_cons (pe_call G_turning_order (hr.mono (by decide)) (by rfl) g_turning_order F_turning_order.kp (bi_turning_order F_turning_order) .nil pass0 (pa_cons (pv 6) (pa_cons (pv 3) pa_nil))) pa_nil)) (pe_callB (show CallR _ _ (rRepr K) from call_reprD hG hr) (by rfl) m_repr (by decide +kernel) (pa_cons (pv 14) pa_nil)) (nomark _)) (pss_one (ps_ret pe_bl)) pss_nil)
      (pss_cons (ps_par (i := 15) (j := 16) rfl sc_law.nd rfl rfl (by decide) rfl rfl (pa_cons (pe_call G__law_of (hr.mono (by decide)) (by rfl) g__law_of F__law_of.kp (bi__law_of F__law_of) .nil pass0 (pa_cons (pv 2) (pa_cons (pv 10) pa_nil))) (pa_cons (pe_call G__law_of (hr.mono (by decide)) (by rfl) g__law_of F__law_of.kp (bi__law_of F__law_of) .nil pass0 (pa_cons (pv 2) (pa_cons (pv 10) pa_nil))) pa_nil)) (by rfl))
      (pss_cons (ps_set (i := 11) sc_law.nd rfl (by first | exact Or.inl rfl | exact Or.inr rfl) (pe_call G__law_ring (hr.mono (by decide)) (by rfl) g__law_ring F__law_ring.kp (bi__law_ring F__law_ring) .nil pass0 (pa_cons (pv 4) (pa_cons (pv 3) (pa_cons (pv 15) pa_nil)))))
      (pss_cons (ps_set (i := 12) sc_law.nd rfl (by first | exact Or.inl rfl | exact Or.inr rfl) (pe_ifExp (pt_cmpR (show OpR _ _ (rInD K) from op_inDE hr.u200) (pv 16) (pv 11) rfl) (pe_bmK (K := K) rfl PySem.F.plainAttrs_list PySem.F.slot_list_index PySem.F.type_list_index (show MtR _ _ (rIndexD K) from mt_idxLD hr.u200) (pv 11) (pa_cons (pv 16) pa_nil)) pe_non))
      (pss_cons (ps_if (pt_cmpR op_ne (pe_callB (show CallR _ _ (rRepr K) from call_reprD hG hr) (by rfl) m_repr (by decide +kernel) (pa_cons (pe_call G_times_to (hr.mono (by decide)) (by rfl) g_times_to F_times_to.kp (bi_times_to F_times_to) .nil pass0 (pa_cons (pv 6) (pa_cons (pv 3) (pa_cons (pv 15) (pa_cons (pv 16) pa_nil))))) pa_nil)) (pe_callB (show CallR _ _ (rRepr K) from call_reprD hG hr) (by rfl) m_repr (by decide +kernel) (pa_cons (pv 12) pa_nil)) (nomark _)) (pss_one (ps_ret pe_bl)) pss_nil)
      (pss_one (ps_set (i := 8) sc_law.nd rfl (by first | exact Or.inl rfl | exact Or.inr rfl) (pe_op op_add (pv 8) (pe_call G_stays (hr.mono (by decide)) (by rfl) g_stays F_stays.kp db_stays_2 dv_stays_2 pass0 (pa_cons (pv 6) (pa_cons (pv 3) pa_nil))))))))))))))
      (pss_one (ps_if (pt_cmpR op_ne (pv 8) (pe_op op_mul (pe_callB (show CallR _ _ (rLenQ K) from call_len_seq) (by rfl) m_len (by decide +kernel) (pa_cons (pv 7) pa_nil)) (pe_lenSetN rfl (by rfl) m_len (by rfl) m_set (pv 5))) (nomark _)) (pss_one (ps_ret pe_bl)) pss_nil)))))))))
      (pss_one (ps_ret pe_bl))), ?r⟩)
  case len =>
    obtain ⟨B, ds, _, is, ⟨d, rfl⟩, _⟩ := h
    exact is.length
  case r =>
    refine body_P h fun ds hp hl => ?_
    obtain ⟨ns, rfl⟩ := hp
    walk_at "body"
    refine s_seq (s_forR ?_)
    walk_at "ev"
    refine ⟨?_, ?_, fun t _ ρ' => ∃ (xs : List (Option Sl)), xs.length = 14 ∧ (xs.all fun s => !Sl.isHand s) = true ∧ ∃ x1, Sl.isHand x1 = false ∧
      ρ' = some (.dat (.scr ns)) :: x1 :: none :: xs, ?_, ?_, ?_⟩
    · split <;> split <;> omega
    · split <;> split <;> omega
    · exact ⟨List.replicate 14 none, rfl, rfl, none, rfl, rfl⟩
    · intro t n1 ρ' ht hI
      obtain ⟨xs, hxl, hxa, x1, h1, rfl⟩ := hI
      match xs, hxl with
      | [y3, y4, y5, y6, y7, y8, y9, y10, y11, y12, y13, y14, y15, y16], _ =>
      have ht3 : t < 3 := by
        revert ht
        split <;> split <;> omega
      simp only [List.all_cons, List.all_nil, Bool.and_true, Bool.and_eq_true, Bool.not_eq_true'] at hxa
      obtain ⟨i3, i4, i5, i6, i7, i8, i9, i10, i11, i12, i13, i14, i15, i16⟩ := hxa
      refine s_newHand (j := 0) (c := 1) rfl rfl ⟨ns, _, rfl, by omega, by omega⟩ (by simp [i3, i4, i5, i6, i7, i8, i9, i10, i11, i12, i13, i14, i15, i16]) fun a => ?_
      walk_at "ro"
      walk_at "ev"
      refine ⟨⟨by omega, rfl⟩, fun m1 d q1 => ?_⟩
      obtain ⟨h1', ⟨ms, hs⟩, hq, rfl⟩ := q1
      have C := Cfg35.of hq
      have hM := C.M
      have hH := C.H
      have h16 := hH.2.1
      have hn4 := C.n4
      have h2 := hH.1
      obtain ⟨hE1, hE2⟩ := cfg35_turns _ hq
      have htot := total80 hq
      have hE1 : (turns35 ms hs).length ≤ 400 := hE1
      have hpl := upto_few43 ms hs.length (fun a ha => cfg43 _ hq a ha _ (Nat.lt_succ_self _)) hs.length (Nat.le_refl _)
      have hpl2 : (places43 ms hs.length).length ≤ 120 := Nat.le_trans hpl (Nat.mul_le_mul_right 30 hn4)
      refine ⟨_, _, rfl, ?_⟩
      walk_at "ro"
      walk_at "ev"
      refine ⟨⟨ms, hs, rfl, C.Q, hH⟩, ?_⟩
      walk_at "ev"
      refine ⟨⟨ms, hs, rfl, hq⟩, ?_⟩
      rw [fTs35_is]
      walk_at "ev"
      refine ⟨_, _, _, rfl, ?_⟩
      walk_at "ro"
      walk_at "ev"
      refine ⟨⟨ms, hs.length, by rw [dints_length], hM, h16⟩, ?_⟩
      rw [dints_length, fLs_is]
      walk_at "ev"
      refine ⟨⟨ms, hs, by rw [dints_length], hq⟩, ?_⟩
      rw [dints_length, fPl43_is]
      refine a_nil ⟨_, _, rfl, ?_⟩
      walk_at "ro"
      walk_at "ev"
      have hst := still_turn (ms := ms) (hs := hs) hM
      have hln := led_none14 ms hs (stillT ms hs.length)
      have hw : ((turns35 ms hs).length : Int) = wayN ms hs [] := ways_many hM h16 (led_nobar14 hM hst hln) (led_bars14 hM hst hln) ⟨hln.row hM hst, by simp, hH.2.2⟩ (turns35_nd ms hs) fun t => by
        rw [turns35_mem]
        exact ⟨fun h => ⟨h, fun r hr => (nomatch hr)⟩, fun h => h.1⟩
      have big : ∀ n : Nat, n ≤ 1000000 → Shows (.int (n : Int)) := fun n hn => shows_big35 (by rw [Int.natAbs_natCast]; exact Nat.lt_of_le_of_lt hn (by decide +kernel))
      have hshE := big (turns35 ms hs).length (by omega)
      refine ⟨⟨ms, hs, rfl, C.Q, hH⟩, ?_⟩
      rw [show fTcn14 [D.ins cFrame [Str.ofString "measure", Str.ofString "hues"] [D.tup (dints ms), D.tup (dints hs)]] = .int ((turns35 ms hs).length : Nat) from (fTcn14_is cFrame ms hs).trans (by rw [hw])]
      walk_at "ev"
      rw [List.length_map]
      walk_at "ev"
      refine s_seq (s_forLw ?_)
      walk_at "ev"
      refine ⟨2, [3, 8, 11, 12, 13, 14, 15, 16], fun c xs => ∃ (z3 z11 z12 z13 z14 z15 z16 : Option Sl), xs = [z3, some (.dat (.int (((turns35 ms hs).take c).map (stays31 ms)).sum)), z11, z12, z13, z14, z15, z16] ∧ ([z3, z11, z12, z13, z14, z15, z16].all fun s => !Sl.isHand s) = true, [_, _, _, _, _, _, _, _], rfl, rfl, ⟨_, _, _, _, _, _, _, rfl, by simp only [List.all_cons, List.all_nil, i3, i11, i12, i13, i14, i15, i16]; rfl⟩, fun c n d xs hd hn hx hI => ?_, fun n xs hn hx hI => ?_⟩
      · obtain ⟨z3, z11, z12, z13, z14, z15, z16, rfl, hz⟩ := hI
        obtain ⟨u, hu, rfl⟩ : ∃ u, (turns35 ms hs)[c]? = some u ∧ d = dturn u := by
          rw [List.getElem?_map, Option.map_eq_some_iff] at hd
          obtain ⟨y, h1, h2⟩ := hd
          exact ⟨y, h1, h2.symm⟩
        have htu := turns35_mem.mp (List.mem_of_getElem? hu)
        have hcl : c < 400 := by have := (List.getElem?_eq_some_iff.mp hu).1; omega
        have hul := htu.lead.len
        have ho := ord_pos26 hM htu
        have hob := ord_bd28 hM htu h16
        have htk : (turns35 ms hs).take (c + 1) = (turns35 ms hs).take c ++ [u] := by rw [List.take_add_one, hu]; rfl
        simp only [List.all_cons, List.all_nil, Bool.and_true, Bool.and_eq_true, Bool.not_eq_true'] at hz
        obtain ⟨j3, j11, j12, j13, j14, j15, j16⟩ := hz
        generalize hS : (((turns35 ms hs).take c).map (stays31 ms)).sum = S
        walk_at "ro"
        walk_at "ev"
        refine s_seq (s_while (q0 := ord26 ms hs.length u - 1) (I := fun q n' ρ' => ∃ j, j + q = ord26 ms hs.length u - 1 ∧ n' = n ∧ ρ' = [some (.dat (.scr ns)), some (.dat (.int (t : Nat))), some .hand, some (.dat (dturn u)), some (.dat (.tup (dints ms))), some (.dat (.tup (dints hs))), some (.dat (D.ins cFrame [Str.ofString "measure", Str.ofString "hues"] [D.tup (dints ms), D.tup (dints hs)])), some (.dat (.lst ((turns35 ms hs).map dturn))), some (.dat (.int S)), some (.dat (dturn (stillT ms hs.length))), some (.dat (.lst ((places43 ms hs.length).map dspot))), z11, z12, some (.dat (dturn (powT26 ms hs.length u (j + 1)))), some (.dat (.int (j + 1 : Nat))), z15, z16]) ⟨0, by omega, rfl, by rw [pow_one26 hM htu]; rfl⟩ ?_)
        intro q n' ρ' hI3
        obtain ⟨j, hjq, rfl, rfl⟩ := hI3
        have htj := pow_turn26 hM htu (j + 1)
        have nA := htj.num hM h16
        have nB := hst.num hM h16
        walk_at "ev"
        by_cases hj : j + 1 = ord26 ms hs.length u
        · rw [(pow_still26 hM htu (j + 1)).mpr (by rw [hj]; exact Nat.dvd_refl _)]
          refine v_neDs nB (by omega) ?_
          refine ⟨_, rfl, ?_⟩
          rw [if_neg Bool.false_ne_true]
          refine s_next ?_
          walk_at "ev"
          refine ⟨⟨ms, hs, u, rfl, hM, h16, htu⟩, ?_⟩
          rw [show fTo26 [D.ins cFrame [Str.ofString "measure", Str.ofString "hues"] [D.tup (dints ms), D.tup (dints hs)], dturn u] = .int (ord26 ms hs.length u : Nat) from fTo26_is cFrame ms hs u, ← hj]
          have hshj := big (j + 1) (by omega)
          walk_at "ev"
          have hPne : (places43 ms hs.length).map dspot ≠ [] := fun e => by
            have := List.map_eq_nil_iff.mp e
            have h3 := places_len33 hM hs.length
            rw [this] at h3
            have h4 := prod8_bd hM
            have h5 : 0 < D.prod (dints ms) ^ (hs.length - 1) := Int.pow_pos (by omega)
            have h6 : (0 : Int) < (hs.length : Nat) * D.prod (dints ms) ^ (hs.length - 1) := Int.mul_pos (by omega) h5
            rw [← h3] at h6
            simp at h6
          refine g_of (by omega) rfl hPne (by rw [List.length_map]; omega) fun m5 d q5 hd5 => ?_
          obtain ⟨p, hp, rfl⟩ := List.mem_map.mp hd5
          have hpp := (places_mem33 hM).mp hp
          walk_at "ev"
          refine g_of (by omega) rfl hPne (by rw [List.length_map]; omega) fun m6 d q6 hd6 => ?_
          obtain ⟨q, hqP, rfl⟩ := List.mem_map.mp hd6
          have hqp := (places_mem33 hM).mp hqP
          walk_at "ev"
          refine ⟨⟨ms, hs, u, p, rfl, hM, h16, htu, hpp⟩, ?_⟩
          obtain ⟨R, eR⟩ : ∃ R, R = ringP28 ms hs.length u p := ⟨_, rfl⟩
          have hRl : R.length = perP28 ms hs.length u p + 1 := by rw [eR, ringP_len28]
          obtain ⟨s1, s2, s3⟩ := perP_spec28 hM htu hpp
          have hRp : ∀ q ∈ R, PlP ms hs.length q.1 q.2 := fun q hq => by rw [eR] at hq; exact ringP_pl28 hM htu hpp hq
          have hE := spots_num80 hM (show hs.length ≤ 17 by omega) hRp
          have nq : Num 3 1700 (dspot q) := num_place hM (show hs.length ≤ 17 by omega) hqp.lt hqp.len hqp.tie
          rw [fRi28_is, hul, ← eR]
          walk_at "ev"
          refine v_inDL (nq.eqs (by omega)) hE ?_
          rw [spot_in14 hM h16 hRp hqp, List.contains_eq_mem]
          refine ⟨_, rfl, ?_⟩
          have last : ∀ n2 (d : D), n2 ≤ m6 → EvC K (some a) (tCall (SpP K (preSy31 cFrame) fSy31) [V.int 1] E0 (tCons (tVar 6) (tCons (tVar 3) tNil))) [some (.dat (.scr ns)), some (.dat (.int (t : Nat))), some .hand, some (.dat (dturn u)), some (.dat (.tup (dints ms))), some (.dat (.tup (dints hs))), some (.dat (D.ins cFrame [Str.ofString "measure", Str.ofString "hues"] [D.tup (dints ms), D.tup (dints hs)])), some (.dat (.lst ((turns35 ms hs).map dturn))), some (.dat (.int S)), some (.dat (dturn (stillT ms hs.length))), some (.dat (.lst ((places43 ms hs.length).map dspot))), some (.dat (.lst (R.map dspot))), some (.dat d), some (.dat (dturn (stillT ms hs.length))), some (.dat (.int (j + 1 : Nat))), some (.dat (dspot p)), some (.dat (dspot q))] n2 fun n3 y => n3 = n2 ∧ y = .int (stays31 ms u) := fun n2 d _ => by
            refine e_callPi ?_
            walk_at "ev"
            refine ⟨⟨ms, hs, u, 1, rfl, hM, h16, htu⟩, rfl, (fSy31_is cFrame ms hs u 1).trans ?_⟩
            rw [hul, show (1 : Int) = ((1 : Nat) : Int) from rfl, ← Int.natCast_emod, Int.toNat_natCast, pow_mod26 hM htu, pow_one26 hM htu]
          by_cases hqR : q ∈ R
          · walk_at "yes"
            refine e_idxLD ?_
            walk_at "ev"
            refine ⟨hE, ?_⟩
            walk_at "ev"
            refine idxL28 hM (n := hs.length) (by omega) hRp hqR ?_
            obtain ⟨k0, ek0⟩ : ∃ k0, k0 = R.idxOf q := ⟨_, rfl⟩
            have hk0 : k0 < R.length := by rw [ek0]; exact List.idxOf_lt_length_of_mem hqR
            rw [← ek0]
            have hsh := big k0 (by omega)
            walk_at "ro"
            walk_at "ev"
            refine ⟨⟨ms, hs, u, p, q, rfl, hM, h16, htu, hpp, hqp⟩, ?_⟩
            rw [show fTi28 [D.ins cFrame [Str.ofString "measure", Str.ofString "hues"] [D.tup (dints ms), D.tup (dints hs)], dturn u, dspot p, dspot q] = _ from fTi28_is cFrame ms hs u p q, hul, ← eR, if_pos hqR, ← ek0]
            walk_at "ev"
            refine e_imp (last m6 _ (Nat.le_refl _)) fun n3 y e => ?_
            obtain ⟨rfl, rfl⟩ := e
            walk_at "ev"
            refine ⟨by omega, [_, _, _, _, _, _, _, _], rfl, rfl, some (.dat (dturn u)), some (.dat (.lst (R.map dspot))), some (.dat (.int (k0 : Nat))), some (.dat (dturn (stillT ms hs.length))), some (.dat (.int (j + 1 : Nat))), some (.dat (dspot p)), some (.dat (dspot q)), ?_, rfl⟩
            rw [htk, List.map_append, List.sum_append, hS]
            simp
            try rfl
          · walk_at "no"
            have hsn : Shows .non := ⟨rfl, rfl, by decide, by decide⟩
            walk_at "ev"
            refine ⟨⟨ms, hs, u, p, q, rfl, hM, h16, htu, hpp, hqp⟩, ?_⟩
            rw [show fTi28 [D.ins cFrame [Str.ofString "measure", Str.ofString "hues"] [D.tup (dints ms), D.tup (dints hs)], dturn u, dspot p, dspot q] = _ from fTi28_is cFrame ms hs u p q, hul, ← eR, if_neg hqR]
            walk_at "ev"
            refine e_imp (last m6 _ (Nat.le_refl _)) fun n3 y e => ?_
            obtain ⟨rfl, rfl⟩ := e
            walk_at "ev"
            refine ⟨by omega, [_, _, _, _, _, _, _, _], rfl, rfl, some (.dat (dturn u)), some (.dat (.lst (R.map dspot))), some (.dat .non), some (.dat (dturn (stillT ms hs.length))), some (.dat (.int (j + 1 : Nat))), some (.dat (dspot p)), some (.dat (dspot q)), ?_, rfl⟩
            rw [htk, List.map_append, List.sum_append, hS]
            simp
            try rfl
        · have hns : powT26 ms hs.length u (j + 1) ≠ stillT ms hs.length := fun e => by
            have := Nat.le_of_dvd (by omega) ((pow_still26 hM htu (j + 1)).mp e)
            omega
          refine v_neDo nA nB (by omega) (by omega) (fun e => hns (dturn_inj e)) ?_
          refine ⟨_, rfl, ?_⟩
          rw [if_pos rfl]
          walk_at "ev"
          refine ⟨⟨ms, hs, _, u, rfl, hM, h16, htj, htu⟩, ?_⟩
          rw [fLbh_is]
          walk_at "ev"
          exact ⟨q - 1, by omega, j + 1, by omega, rfl, rfl⟩
      · obtain ⟨z3, z11, z12, z13, z14, z15, z16, rfl, hz⟩ := hI
        have hall2 : (turns35 ms hs).take ((turns35 ms hs).map dturn).length = turns35 ms hs := by rw [List.length_map, List.take_length]
        rw [hall2, htot]
        simp only [List.all_cons, List.all_nil, Bool.and_true, Bool.and_eq_true, Bool.not_eq_true'] at hz
        obtain ⟨j3, j11, j12, j13, j14, j15, j16⟩ := hz
        walk_at "ro"
        refine s_next ?_
        walk_at "ev"
        rw [List.length_map]
        refine e_lenSetN ?_
        refine e_var rfl ⟨hs, rfl, by omega, fun c hc => ?_⟩
        have ec := dist80 hq hc
        subst ec
        refine v_I (.inl ⟨by omega, by omega⟩) ?_
        walk_at "ev"
        rw [decide_eq_true rfl]
        walk_at "ev"
        refine ⟨by simp only [List.set_cons_succ, List.set_cons_zero, List.all_cons, List.all_nil, j3, j11, j12, j13, j14, j15, j16]; rfl, [_, _, _, _, _, _, _, _, _, _, _, _, _, _], rfl, ?_, _, rfl, rfl⟩
        simp only [List.all_cons, List.all_nil, j3, j11, j12, j13, j14, j15, j16]; rfl
    · intro n1 ρ' hI
      exact s_ret (e_bl rfl)
end
theorem all_mk {l : PySem.W.OpenLaw} {w : World} {K : PySem.W.Frag} {h : Heap}
    {mg : Str → Option Value} {fa : Addr} (X : K.In h) (G : h.Ns mainGlobals mg)
    (hfa : mg "law" = some (.ref fa))
    {cFrame : Addr} (p0 : PySem.W.nsIn K mainGlobals "Frame" = some (some (.ref cFrame)))
    (q0g : PySem.W.plainGet K cFrame Str.empty = true)
    (q0h : PySem.W.hasDictIn K cFrame = true)
    (q0o : PySem.W.plainOver K cFrame = true)
    (q0s : PySem.W.findIn K (.ref cFrame) "__setattr__" = some (some (.builtin "object.__setattr__")))
    (q0m : PySem.W.makesIn K cFrame = true)
    (q0k : PySem.W.keepIn K (.ref cFrame) = true)
    (q0x : PySem.W.findIn K (.ref cFrame) "measure" = some none)
    (q0y : PySem.W.findIn K (.ref cFrame) "hues" = some none)
    {f0 : Addr} {od0 an0 : Option Addr} {sl0 : Array (Option Value)} {oc0 kV0 dc0 pm0 cd0 ct0 : Value}
    (a0 : PySem.W.nsIn K mainGlobals "is_whole" = some (some (.ref f0)))
    (l0 : K.lookup f0 = some ⟨oc0, od0, .func (PySem.W.fnOf "is_whole" "is_whole" (defArgs s_is_whole) (defBody s_is_whole) (defScope s_is_whole) .none kV0 dc0 pm0 an0 cd0 ct0), sl0⟩)
    (c0 : PySem.W.codeIn K cd0 "is_whole" = true) (k0 : PySem.W.keepIn K (.ref f0) = true)
    {f1 : Addr} {od1 an1 : Option Addr} {sl1 : Array (Option Value)} {oc1 kV1 dc1 pm1 cd1 ct1 : Value}
    (a1 : PySem.W.nsIn K mainGlobals "is_within" = some (some (.ref f1)))
    (l1 : K.lookup f1 = some ⟨oc1, od1, .func (PySem.W.fnOf "is_within" "is_within" (defArgs s_is_within) (defBody s_is_within) (defScope s_is_within) .none kV1 dc1 pm1 an1 cd1 ct1), sl1⟩)
    (c1 : PySem.W.codeIn K cd1 "is_within" = true) (k1 : PySem.W.keepIn K (.ref f1) = true)
    {f2 : Addr} {od2 an2 : Option Addr} {sl2 : Array (Option Value)} {oc2 kV2 dc2 pm2 cd2 ct2 : Value}
    (a2 : PySem.W.nsIn K mainGlobals "product" = some (some (.ref f2)))
    (l2 : K.lookup f2 = some ⟨oc2, od2, .func (PySem.W.fnOf "product" "product" (defArgs s_product) (defBody s_product) (defScope s_product) .none kV2 dc2 pm2 an2 cd2 ct2), sl2⟩)
    (c2 : PySem.W.codeIn K cd2 "product" = true) (k2 : PySem.W.keepIn K (.ref f2) = true)
    {f3 : Addr} {od3 an3 : Option Addr} {sl3 : Array (Option Value)} {oc3 kV3 dc3 pm3 cd3 ct3 : Value}
    (a3 : PySem.W.nsIn K mainGlobals "like_counts" = some (some (.ref f3)))
    (l3 : K.lookup f3 = some ⟨oc3, od3, .func (PySem.W.fnOf "like_counts" "like_counts" (defArgs s_like_counts) (defBody s_like_counts) (defScope s_like_counts) .none kV3 dc3 pm3 an3 cd3 ct3), sl3⟩)
    (c3 : PySem.W.codeIn K cd3 "like_counts" = true) (k3 : PySem.W.keepIn K (.ref f3) = true)
    {f4 : Addr} {od4 an4 : Option Addr} {sl4 : Array (Option Value)} {oc4 kV4 dc4 pm4 cd4 ct4 : Value}
    (a4 : PySem.W.nsIn K mainGlobals "common_divisor" = some (some (.ref f4)))
    (l4 : K.lookup f4 = some ⟨oc4, od4, .func (PySem.W.fnOf "common_divisor" "common_divisor" (defArgs s_common_divisor) (defBody s_common_divisor) (defScope s_common_divisor) .none kV4 dc4 pm4 an4 cd4 ct4), sl4⟩)
    (c4 : PySem.W.codeIn K cd4 "common_divisor" = true) (k4 : PySem.W.keepIn K (.ref f4) = true)
    {f5 : Addr} {od5 an5 : Option Addr} {sl5 : Array (Option Value)} {oc5 kV5 dc5 pm5 cd5 ct5 : Value}
    (a5 : PySem.W.nsIn K mainGlobals "common_multiple" = some (some (.ref f5)))
    (l5 : K.lookup f5 = some ⟨oc5, od5, .func (PySem.W.fnOf "common_multiple" "common_multiple" (defArgs s_common_multiple) (defBody s_common_multiple) (defScope s_common_multiple) .none kV5 dc5 pm5 an5 cd5 ct5), sl5⟩)
    (c5 : PySem.W.codeIn K cd5 "common_multiple" = true) (k5 : PySem.W.keepIn K (.ref f5) = true)
    {f6 : Addr} {od6 an6 : Option Addr} {sl6 : Array (Option Value)} {oc6 kV6 dc6 pm6 cd6 ct6 : Value}
    (a6 : PySem.W.nsIn K mainGlobals "is_measure" = some (some (.ref f6)))
    (l6 : K.lookup f6 = some ⟨oc6, od6, .func (PySem.W.fnOf "is_measure" "is_measure" (defArgs s_is_measure) (defBody s_is_measure) (defScope s_is_measure) .none kV6 dc6 pm6 an6 cd6 ct6), sl6⟩)
    (c6 : PySem.W.codeIn K cd6 "is_measure" = true) (k6 : PySem.W.keepIn K (.ref f6) = true)
    {f7 : Addr} {od7 an7 : Option Addr} {sl7 : Array (Option Value)} {oc7 kV7 dc7 pm7 cd7 ct7 : Value}
    (a7 : PySem.W.nsIn K mainGlobals "tie_count" = some (some (.ref f7)))
    (l7 : K.lookup f7 = some ⟨oc7, od7, .func (PySem.W.fnOf "tie_count" "tie_count" (defArgs s_tie_count) (defBody s_tie_count) (defScope s_tie_count) .none kV7 dc7 pm7 an7 cd7 ct7), sl7⟩)
    (c7 : PySem.W.codeIn K cd7 "tie_count" = true) (k7 : PySem.W.keepIn K (.ref f7) = true)
    {f8 : Addr} {od8 an8 : Option Addr} {sl8 : Array (Option Value)} {oc8 kV8 dc8 pm8 cd8 ct8 : Value}
    (a8 : PySem.W.nsIn K mainGlobals "nought" = some (some (.ref f8)))
    (l8 : K.lookup f8 = some ⟨oc8, od8, .func (PySem.W.fnOf "nought" "nought" (defArgs s_nought) (defBody s_nought) (defScope s_nought) .none kV8 dc8 pm8 an8 cd8 ct8), sl8⟩)
    (c8 : PySem.W.codeIn K cd8 "nought" = true) (k8 : PySem.W.keepIn K (.ref f8) = true)
    {f9 : Addr} {od9 an9 : Option Addr} {sl9 : Array (Option Value)} {oc9 kV9 dc9 pm9 cd9 ct9 : Value}
    (a9 : PySem.W.nsIn K mainGlobals "tie_sum" = some (some (.ref f9)))
    (l9 : K.lookup f9 = some ⟨oc9, od9, .func (PySem.W.fnOf "tie_sum" "tie_sum" (defArgs s_tie_sum) (defBody s_tie_sum) (defScope s_tie_sum) .none kV9 dc9 pm9 an9 cd9 ct9), sl9⟩)
    (c9 : PySem.W.codeIn K cd9 "tie_sum" = true) (k9 : PySem.W.keepIn K (.ref f9) = true)
    {f10 : Addr} {od10 an10 : Option Addr} {sl10 : Array (Option Value)} {oc10 kV10 dc10 pm10 cd10 ct10 : Value}
    (a10 : PySem.W.nsIn K mainGlobals "tie_times" = some (some (.ref f10)))
    (l10 : K.lookup f10 = some ⟨oc10, od10, .func (PySem.W.fnOf "tie_times" "tie_times" (defArgs s_tie_times) (defBody s_tie_times) (defScope s_tie_times) .none kV10 dc10 pm10 an10 cd10 ct10), sl10⟩)
    (c10 : PySem.W.codeIn K cd10 "tie_times" = true) (k10 : PySem.W.keepIn K (.ref f10) = true)
    {f11 : Addr} {od11 an11 : Option Addr} {sl11 : Array (Option Value)} {oc11 kV11 dc11 pm11 cd11 ct11 : Value}
    (a11 : PySem.W.nsIn K mainGlobals "tie_order" = some (some (.ref f11)))
    (l11 : K.lookup f11 = some ⟨oc11, od11, .func (PySem.W.fnOf "tie_order" "tie_order" (defArgs s_tie_order) (defBody s_tie_order) (defScope s_tie_order) .none kV11 dc11 pm11 an11 cd11 ct11), sl11⟩)
    (c11 : PySem.W.codeIn K cd11 "tie_order" = true) (k11 : PySem.W.keepIn K (.ref f11) = true)
    {f12 : Addr} {od12 an12 : Option Addr} {sl12 : Array (Option Value)} {oc12 kV12 dc12 pm12 cd12 ct12 : Value}
    (a12 : PySem.W.nsIn K mainGlobals "even_table" = some (some (.ref f12)))
    (l12 : K.lookup f12 = some ⟨oc12, od12, .func (PySem.W.fnOf "even_table" "even_table" (defArgs s_even_table) (defBody s_even_table) (defScope s_even_table) .none kV12 dc12 pm12 an12 cd12 ct12), sl12⟩)
    (c12 : PySem.W.codeIn K cd12 "even_table" = true) (k12 : PySem.W.keepIn K (.ref f12) = true)
    {f13 : Addr} {od13 an13 : Option Addr} {sl13 : Array (Option Value)} {oc13 kV13 dc13 pm13 cd13 ct13 : Value}
    (a13 : PySem.W.nsIn K mainGlobals "table_tie" = some (some (.ref f13)))
    (l13 : K.lookup f13 = some ⟨oc13, od13, .func (PySem.W.fnOf "table_tie" "table_tie" (defArgs s_table_tie) (defBody s_table_tie) (defScope s_table_tie) .none kV13 dc13 pm13 an13 cd13 ct13), sl13⟩)
    (c13 : PySem.W.codeIn K cd13 "table_tie" = true) (k13 : PySem.W.keepIn K (.ref f13) = true)
    {f14 : Addr} {od14 an14 : Option Addr} {sl14 : Array (Option Value)} {oc14 kV14 dc14 pm14 cd14 ct14 : Value}
    (a14 : PySem.W.nsIn K mainGlobals "still_turning" = some (some (.ref f14)))
    (l14 : K.lookup f14 = some ⟨oc14, od14, .func (PySem.W.fnOf "still_turning" "still_turning" (defArgs s_still_turning) (defBody s_still_turning) (defScope s_still_turning) .none kV14 dc14 pm14 an14 cd14 ct14), sl14⟩)
    (c14 : PySem.W.codeIn K cd14 "still_turning" = true) (k14 : PySem.W.keepIn K (.ref f14) = true)
    {f15 : Addr} {od15 an15 : Option Addr} {sl15 : Array (Option Value)} {oc15 kV15 dc15 pm15 cd15 ct15 : Value}
    (a15 : PySem.W.nsIn K mainGlobals "lead_place" = some (some (.ref f15)))
    (l15 : K.lookup f15 = some ⟨oc15, od15, .func (PySem.W.fnOf "lead_place" "lead_place" (defArgs s_lead_place) (defBody s_lead_place) (defScope s_lead_place) .none kV15 dc15 pm15 an15 cd15 ct15), sl15⟩)
    (c15 : PySem.W.codeIn K cd15 "lead_place" = true) (k15 : PySem.W.keepIn K (.ref f15) = true)
    {f16 : Addr} {od16 an16 : Option Addr} {sl16 : Array (Option Value)} {oc16 kV16 dc16 pm16 cd16 ct16 : Value}
    (a16 : PySem.W.nsIn K mainGlobals "put_behind" = some (some (.ref f16)))
    (l16 : K.lookup f16 = some ⟨oc16, od16, .func (PySem.W.fnOf "put_behind" "put_behind" (defArgs s_put_behind) (defBody s_put_behind) (defScope s_put_behind) .none kV16 dc16 pm16 an16 cd16 ct16), sl16⟩)
    (c16 : PySem.W.codeIn K cd16 "put_behind" = true) (k16 : PySem.W.keepIn K (.ref f16) = true)
    {f17 : Addr} {od17 an17 : Option Addr} {sl17 : Array (Option Value)} {oc17 kV17 dc17 pm17 cd17 ct17 : Value}
    (a17 : PySem.W.nsIn K mainGlobals "moves_behind" = some (some (.ref f17)))
    (l17 : K.lookup f17 = some ⟨oc17, od17, .func (PySem.W.fnOf "moves_behind" "moves_behind" (defArgs s_moves_behind) (defBody s_moves_behind) (defScope s_moves_behind) .none kV17 dc17 pm17 an17 cd17 ct17), sl17⟩)
    (c17 : PySem.W.codeIn K cd17 "moves_behind" = true) (k17 : PySem.W.keepIn K (.ref f17) = true)
    {f18 : Addr} {od18 an18 : Option Addr} {sl18 : Array (Option Value)} {oc18 kV18 dc18 pm18 cd18 ct18 : Value}
    (a18 : PySem.W.nsIn K mainGlobals "turning_count" = some (some (.ref f18)))
    (l18 : K.lookup f18 = some ⟨oc18, od18, .func (PySem.W.fnOf "turning_count" "turning_count" (defArgs s_turning_count) (defBody s_turning_count) (defScope s_turning_count) .none kV18 dc18 pm18 an18 cd18 ct18), sl18⟩)
    (c18 : PySem.W.codeIn K cd18 "turning_count" = true) (k18 : PySem.W.keepIn K (.ref f18) = true)
    {f19 : Addr} {od19 an19 : Option Addr} {sl19 : Array (Option Value)} {oc19 kV19 dc19 pm19 cd19 ct19 : Value}
    (a19 : PySem.W.nsIn K mainGlobals "turn_times" = some (some (.ref f19)))
    (l19 : K.lookup f19 = some ⟨oc19, od19, .func (PySem.W.fnOf "turn_times" "turn_times" (defArgs s_turn_times) (defBody s_turn_times) (defScope s_turn_times) .none kV19 dc19 pm19 an19 cd19 ct19), sl19⟩)
    (c19 : PySem.W.codeIn K cd19 "turn_times" = true) (k19 : PySem.W.keepIn K (.ref f19) = true)
    {f20 : Addr} {od20 an20 : Option Addr} {sl20 : Array (Option Value)} {oc20 kV20 dc20 pm20 cd20 ct20 : Value}
    (a20 : PySem.W.nsIn K mainGlobals "doubled_times" = some (some (.ref f20)))
    (l20 : K.lookup f20 = some ⟨oc20, od20, .func (PySem.W.fnOf "doubled_times" "doubled_times" (defArgs s_doubled_times) (defBody s_doubled_times) (defScope s_doubled_times) .none kV20 dc20 pm20 an20 cd20 ct20), sl20⟩)
    (c20 : PySem.W.codeIn K cd20 "doubled_times" = true) (k20 : PySem.W.keepIn K (.ref f20) = true)
    {f21 : Addr} {od21 an21 : Option Addr} {sl21 : Array (Option Value)} {oc21 kV21 dc21 pm21 cd21 ct21 : Value}
    (a21 : PySem.W.nsIn K mainGlobals "turning_order" = some (some (.ref f21)))
    (l21 : K.lookup f21 = some ⟨oc21, od21, .func (PySem.W.fnOf "turning_order" "turning_order" (defArgs s_turning_order) (defBody s_turning_order) (defScope s_turning_order) .none kV21 dc21 pm21 an21 cd21 ct21), sl21⟩)
    (c21 : PySem.W.codeIn K cd21 "turning_order" = true) (k21 : PySem.W.keepIn K (.ref f21) = true)
    {f22 : Addr} {od22 an22 : Option Addr} {sl22 : Array (Option Value)} {oc22 kV22 dc22 pm22 cd22 ct22 : Value}
    (a22 : PySem.W.nsIn K mainGlobals "stem_ring" = some (some (.ref f22)))
    (l22 : K.lookup f22 = some ⟨oc22, od22, .func (PySem.W.fnOf "stem_ring" "stem_ring" (defArgs s_stem_ring) (defBody s_stem_ring) (defScope s_stem_ring) .none kV22 dc22 pm22 an22 cd22 ct22), sl22⟩)
    (c22 : PySem.W.codeIn K cd22 "stem_ring" = true) (k22 : PySem.W.keepIn K (.ref f22) = true)
    {f23 : Addr} {od23 an23 : Option Addr} {sl23 : Array (Option Value)} {oc23 kV23 dc23 pm23 cd23 ct23 : Value}
    (a23 : PySem.W.nsIn K mainGlobals "times_to" = some (some (.ref f23)))
    (l23 : K.lookup f23 = some ⟨oc23, od23, .func (PySem.W.fnOf "times_to" "times_to" (defArgs s_times_to) (defBody s_times_to) (defScope s_times_to) .none kV23 dc23 pm23 an23 cd23 ct23), sl23⟩)
    (c23 : PySem.W.codeIn K cd23 "times_to" = true) (k23 : PySem.W.keepIn K (.ref f23) = true)
    {f24 : Addr} {od24 an24 : Option Addr} {sl24 : Array (Option Value)} {oc24 kV24 dc24 pm24 cd24 ct24 : Value}
    (a24 : PySem.W.findIn K (.ref cFrame) "__init__" = some (some (.ref f24))) (b24 : PySem.W.isFn K (.ref f24) = true)
    (l24 : K.lookup f24 = some ⟨oc24, od24, .func (PySem.W.fnOf "__init__" "Frame.__init__" (defArgs s_Frame_init) (defBody s_Frame_init) (defScope s_Frame_init) .none kV24 dc24 pm24 an24 cd24 ct24), sl24⟩)
    (c24 : PySem.W.codeIn K cd24 "Frame.__init__" = true) (k24 : PySem.W.keepIn K (.ref f24) = true)
    {f25 : Addr} {od25 an25 : Option Addr} {sl25 : Array (Option Value)} {oc25 kV25 dc25 pm25 cd25 ct25 : Value}
    (a25 : PySem.W.findIn K (.ref cFrame) "stem_count" = some (some (.ref f25))) (b25 : PySem.W.isFn K (.ref f25) = true)
    (l25 : K.lookup f25 = some ⟨oc25, od25, .func (PySem.W.fnOf "stem_count" "Frame.stem_count" (defArgs s_Frame_stem_count) (defBody s_Frame_stem_count) (defScope s_Frame_stem_count) .none kV25 dc25 pm25 an25 cd25 ct25), sl25⟩)
    (c25 : PySem.W.codeIn K cd25 "Frame.stem_count" = true) (k25 : PySem.W.keepIn K (.ref f25) = true)
    {f26 : Addr} {od26 an26 : Option Addr} {sl26 : Array (Option Value)} {oc26 kV26 dc26 pm26 cd26 ct26 : Value}
    (a26 : PySem.W.nsIn K mainGlobals "are_hues" = some (some (.ref f26)))
    (l26 : K.lookup f26 = some ⟨oc26, od26, .func (PySem.W.fnOf "are_hues" "are_hues" (defArgs s_are_hues) (defBody s_are_hues) (defScope s_are_hues) .none kV26 dc26 pm26 an26 cd26 ct26), sl26⟩)
    (c26 : PySem.W.codeIn K cd26 "are_hues" = true) (k26 : PySem.W.keepIn K (.ref f26) = true)
    {f27 : Addr} {od27 an27 : Option Addr} {sl27 : Array (Option Value)} {oc27 kV27 dc27 pm27 cd27 ct27 : Value}
    (a27 : PySem.W.nsIn K mainGlobals "is_hue" = some (some (.ref f27)))
    (l27 : K.lookup f27 = some ⟨oc27, od27, .func (PySem.W.fnOf "is_hue" "is_hue" (defArgs s_is_hue) (defBody s_is_hue) (defScope s_is_hue) .none kV27 dc27 pm27 an27 cd27 ct27), sl27⟩)
    (c27 : PySem.W.codeIn K cd27 "is_hue" = true) (k27 : PySem.W.keepIn K (.ref f27) = true)
    {f28 : Addr} {od28 an28 : Option Addr} {sl28 : Array (Option Value)} {oc28 kV28 dc28 pm28 cd28 ct28 : Value}
    (a28 : PySem.W.nsIn K mainGlobals "stays" = some (some (.ref f28)))
    {T28 : Addr} {ocT28 : Value} {odT28 : Option Addr} {slT28 : Array (Option Value)} {nT28 : Nat} {kT28_0 : Tok}
    (l28 : K.lookup f28 = some ⟨oc28, od28, .func (PySem.W.fnOf "stays" "stays" (defArgs s_stays) (defBody s_stays) (defScope s_stays) (.ref T28) kV28 dc28 pm28 an28 cd28 ct28), sl28⟩)
    (h28 : K.lookup T28 = some ⟨ocT28, odT28, .seq (List.toArray [.int 1 kT28_0]) nT28, slT28⟩)
    (c28 : PySem.W.codeIn K cd28 "stays" = true) (k28 : PySem.W.keepIn K (.ref f28) = true)
    {f29 : Addr} {od29 an29 : Option Addr} {sl29 : Array (Option Value)} {oc29 kV29 dc29 pm29 cd29 ct29 : Value}
    (a29 : PySem.W.nsIn K mainGlobals "stem_stays" = some (some (.ref f29)))
    (l29 : K.lookup f29 = some ⟨oc29, od29, .func (PySem.W.fnOf "stem_stays" "stem_stays" (defArgs s_stem_stays) (defBody s_stem_stays) (defScope s_stem_stays) .none kV29 dc29 pm29 an29 cd29 ct29), sl29⟩)
    (c29 : PySem.W.codeIn K cd29 "stem_stays" = true) (k29 : PySem.W.keepIn K (.ref f29) = true)
    {f30 : Addr} {od30 an30 : Option Addr} {sl30 : Array (Option Value)} {oc30 kV30 dc30 pm30 cd30 ct30 : Value}
    (a30 : PySem.W.nsIn K mainGlobals "is_even" = some (some (.ref f30)))
    (l30 : K.lookup f30 = some ⟨oc30, od30, .func (PySem.W.fnOf "is_even" "is_even" (defArgs s_is_even) (defBody s_is_even) (defScope s_is_even) .none kV30 dc30 pm30 an30 cd30 ct30), sl30⟩)
    (c30 : PySem.W.codeIn K cd30 "is_even" = true) (k30 : PySem.W.keepIn K (.ref f30) = true)
    {f31 : Addr} {od31 an31 : Option Addr} {sl31 : Array (Option Value)} {oc31 kV31 dc31 pm31 cd31 ct31 : Value}
    (a31 : PySem.W.nsIn K mainGlobals "_law_hand" = some (some (.ref f31)))
    (l31 : K.lookup f31 = some ⟨oc31, od31, .func (PySem.W.fnOf "_law_hand" "_law_hand" (defArgs s__law_hand) (defBody s__law_hand) (defScope s__law_hand) .none kV31 dc31 pm31 an31 cd31 ct31), sl31⟩)
    (c31 : PySem.W.codeIn K cd31 "_law_hand" = true) (k31 : PySem.W.keepIn K (.ref f31) = true)
    {f32 : Addr} {od32 an32 : Option Addr} {sl32 : Array (Option Value)} {oc32 kV32 dc32 pm32 cd32 ct32 : Value}
    (a32 : PySem.W.nsIn K mainGlobals "_law_take" = some (some (.ref f32)))
    (l32 : K.lookup f32 = some ⟨oc32, od32, .func (PySem.W.fnOf "_law_take" "_law_take" (defArgs s__law_take) (defBody s__law_take) (defScope s__law_take) .none kV32 dc32 pm32 an32 cd32 ct32), sl32⟩)
    (c32 : PySem.W.codeIn K cd32 "_law_take" = true) (k32 : PySem.W.keepIn K (.ref f32) = true)
    {f33 : Addr} {od33 an33 : Option Addr} {sl33 : Array (Option Value)} {oc33 kV33 dc33 pm33 cd33 ct33 : Value}
    (a33 : PySem.W.nsIn K mainGlobals "_law_of" = some (some (.ref f33)))
    (l33 : K.lookup f33 = some ⟨oc33, od33, .func (PySem.W.fnOf "_law_of" "_law_of" (defArgs s__law_of) (defBody s__law_of) (defScope s__law_of) .none kV33 dc33 pm33 an33 cd33 ct33), sl33⟩)
    (c33 : PySem.W.codeIn K cd33 "_law_of" = true) (k33 : PySem.W.keepIn K (.ref f33) = true)
    {f34 : Addr} {od34 an34 : Option Addr} {sl34 : Array (Option Value)} {oc34 kV34 dc34 pm34 cd34 ct34 : Value}
    (a34 : PySem.W.nsIn K mainGlobals "_law_sum" = some (some (.ref f34)))
    (l34 : K.lookup f34 = some ⟨oc34, od34, .func (PySem.W.fnOf "_law_sum" "_law_sum" (defArgs s__law_sum) (defBody s__law_sum) (defScope s__law_sum) .none kV34 dc34 pm34 an34 cd34 ct34), sl34⟩)
    (c34 : PySem.W.codeIn K cd34 "_law_sum" = true) (k34 : PySem.W.keepIn K (.ref f34) = true)
    {f35 : Addr} {od35 an35 : Option Addr} {sl35 : Array (Option Value)} {oc35 kV35 dc35 pm35 cd35 ct35 : Value}
    (a35 : PySem.W.nsIn K mainGlobals "_law_at" = some (some (.ref f35)))
    (l35 : K.lookup f35 = some ⟨oc35, od35, .func (PySem.W.fnOf "_law_at" "_law_at" (defArgs s__law_at) (defBody s__law_at) (defScope s__law_at) .none kV35 dc35 pm35 an35 cd35 ct35), sl35⟩)
    (c35 : PySem.W.codeIn K cd35 "_law_at" = true) (k35 : PySem.W.keepIn K (.ref f35) = true)
    {f36 : Addr} {od36 an36 : Option Addr} {sl36 : Array (Option Value)} {oc36 kV36 dc36 pm36 cd36 ct36 : Value}
    (a36 : PySem.W.nsIn K mainGlobals "_law_led" = some (some (.ref f36)))
    (l36 : K.lookup f36 = some ⟨oc36, od36, .func (PySem.W.fnOf "_law_led" "_law_led" (defArgs s__law_led) (defBody s__law_led) (defScope s__law_led) .none kV36 dc36 pm36 an36 cd36 ct36), sl36⟩)
    (c36 : PySem.W.codeIn K cd36 "_law_led" = true) (k36 : PySem.W.keepIn K (.ref f36) = true)
    {f37 : Addr} {od37 an37 : Option Addr} {sl37 : Array (Option Value)} {oc37 kV37 dc37 pm37 cd37 ct37 : Value}
    (a37 : PySem.W.nsIn K mainGlobals "_law_behind" = some (some (.ref f37)))
    (l37 : K.lookup f37 = some ⟨oc37, od37, .func (PySem.W.fnOf "_law_behind" "_law_behind" (defArgs s__law_behind) (defBody s__law_behind) (defScope s__law_behind) .none kV37 dc37 pm37 an37 cd37 ct37), sl37⟩)
    (c37 : PySem.W.codeIn K cd37 "_law_behind" = true) (k37 : PySem.W.keepIn K (.ref f37) = true)
    {f38 : Addr} {od38 an38 : Option Addr} {sl38 : Array (Option Value)} {oc38 kV38 dc38 pm38 cd38 ct38 : Value}
    (a38 : PySem.W.nsIn K mainGlobals "_law_still" = some (some (.ref f38)))
    (l38 : K.lookup f38 = some ⟨oc38, od38, .func (PySem.W.fnOf "_law_still" "_law_still" (defArgs s__law_still) (defBody s__law_still) (defScope s__law_still) .none kV38 dc38 pm38 an38 cd38 ct38), sl38⟩)
    (c38 : PySem.W.codeIn K cd38 "_law_still" = true) (k38 : PySem.W.keepIn K (.ref f38) = true)
    {f39 : Addr} {od39 an39 : Option Addr} {sl39 : Array (Option Value)} {oc39 kV39 dc39 pm39 cd39 ct39 : Value}
    (a39 : PySem.W.nsIn K mainGlobals "_law_knots" = some (some (.ref f39)))
    (l39 : K.lookup f39 = some ⟨oc39, od39, .func (PySem.W.fnOf "_law_knots" "_law_knots" (defArgs s__law_knots) (defBody s__law_knots) (defScope s__law_knots) .none kV39 dc39 pm39 an39 cd39 ct39), sl39⟩)
    (c39 : PySem.W.codeIn K cd39 "_law_knots" = true) (k39 : PySem.W.keepIn K (.ref f39) = true)
    {f40 : Addr} {od40 an40 : Option Addr} {sl40 : Array (Option Value)} {oc40 kV40 dc40 pm40 cd40 ct40 : Value}
    (a40 : PySem.W.nsIn K mainGlobals "_law_grids" = some (some (.ref f40)))
    (l40 : K.lookup f40 = some ⟨oc40, od40, .func (PySem.W.fnOf "_law_grids" "_law_grids" (defArgs s__law_grids) (defBody s__law_grids) (defScope s__law_grids) .none kV40 dc40 pm40 an40 cd40 ct40), sl40⟩)
    (c40 : PySem.W.codeIn K cd40 "_law_grids" = true) (k40 : PySem.W.keepIn K (.ref f40) = true)
    {f41 : Addr} {od41 an41 : Option Addr} {sl41 : Array (Option Value)} {oc41 kV41 dc41 pm41 cd41 ct41 : Value}
    (a41 : PySem.W.nsIn K mainGlobals "_law_orders" = some (some (.ref f41)))
    (l41 : K.lookup f41 = some ⟨oc41, od41, .func (PySem.W.fnOf "_law_orders" "_law_orders" (defArgs s__law_orders) (defBody s__law_orders) (defScope s__law_orders) .none kV41 dc41 pm41 an41 cd41 ct41), sl41⟩)
    (c41 : PySem.W.codeIn K cd41 "_law_orders" = true) (k41 : PySem.W.keepIn K (.ref f41) = true)
    {f42 : Addr} {od42 an42 : Option Addr} {sl42 : Array (Option Value)} {oc42 kV42 dc42 pm42 cd42 ct42 : Value}
    (a42 : PySem.W.nsIn K mainGlobals "_law_turnings" = some (some (.ref f42)))
    (l42 : K.lookup f42 = some ⟨oc42, od42, .func (PySem.W.fnOf "_law_turnings" "_law_turnings" (defArgs s__law_turnings) (defBody s__law_turnings) (defScope s__law_turnings) .none kV42 dc42 pm42 an42 cd42 ct42), sl42⟩)
    (c42 : PySem.W.codeIn K cd42 "_law_turnings" = true) (k42 : PySem.W.keepIn K (.ref f42) = true)
    {f43 : Addr} {od43 an43 : Option Addr} {sl43 : Array (Option Value)} {oc43 kV43 dc43 pm43 cd43 ct43 : Value}
    (a43 : PySem.W.nsIn K mainGlobals "_law_places" = some (some (.ref f43)))
    (l43 : K.lookup f43 = some ⟨oc43, od43, .func (PySem.W.fnOf "_law_places" "_law_places" (defArgs s__law_places) (defBody s__law_places) (defScope s__law_places) .none kV43 dc43 pm43 an43 cd43 ct43), sl43⟩)
    (c43 : PySem.W.codeIn K cd43 "_law_places" = true) (k43 : PySem.W.keepIn K (.ref f43) = true)
    {f44 : Addr} {od44 an44 : Option Addr} {sl44 : Array (Option Value)} {oc44 kV44 dc44 pm44 cd44 ct44 : Value}
    (a44 : PySem.W.nsIn K mainGlobals "_law_little" = some (some (.ref f44)))
    (l44 : K.lookup f44 = some ⟨oc44, od44, .func (PySem.W.fnOf "_law_little" "_law_little" (defArgs s__law_little) (defBody s__law_little) (defScope s__law_little) .none kV44 dc44 pm44 an44 cd44 ct44), sl44⟩)
    (c44 : PySem.W.codeIn K cd44 "_law_little" = true) (k44 : PySem.W.keepIn K (.ref f44) = true)
    {f45 : Addr} {od45 an45 : Option Addr} {sl45 : Array (Option Value)} {oc45 kV45 dc45 pm45 cd45 ct45 : Value}
    (a45 : PySem.W.nsIn K mainGlobals "_law_ring" = some (some (.ref f45)))
    (l45 : K.lookup f45 = some ⟨oc45, od45, .func (PySem.W.fnOf "_law_ring" "_law_ring" (defArgs s__law_ring) (defBody s__law_ring) (defScope s__law_ring) .none kV45 dc45 pm45 an45 cd45 ct45), sl45⟩)
    (c45 : PySem.W.codeIn K cd45 "_law_ring" = true) (k45 : PySem.W.keepIn K (.ref f45) = true)
    {f46 : Addr} {od46 an46 : Option Addr} {sl46 : Array (Option Value)} {oc46 kV46 dc46 pm46 cd46 ct46 : Value}
    (a46 : PySem.W.nsIn K mainGlobals "law" = some (some (.ref f46)))
    (l46 : K.lookup f46 = some ⟨oc46, od46, .func (PySem.W.fnOf "law" "law" (defArgs s_law) (defBody s_law) (defScope s_law) .none kV46 dc46 pm46 an46 cd46 ct46), sl46⟩)
    (c46 : PySem.W.codeIn K cd46 "law" = true) (k46 : PySem.W.keepIn K (.ref f46) = true)
    {t0 : Tok} (v0 : PySem.W.nsIn K mainGlobals "LEAST_NUMBER" = some (some (.int 2 t0)))
    {t1 : Tok} (v1 : PySem.W.nsIn K mainGlobals "LEAST_STEMS" = some (some (.int 2 t1)))
    {t2 : Tok} (v2 : PySem.W.nsIn K mainGlobals "MOST_HUE" = some (some (.int 9 t2)))
    {t3 : Tok} (v3 : PySem.W.nsIn K mainGlobals "MOST_NUMBER" = some (some (.int 5 t3)))
    {t4 : Tok} (v4 : PySem.W.nsIn K mainGlobals "MOST_NUMBERS" = some (some (.int 3 t4)))
    {t5 : Tok} (v5 : PySem.W.nsIn K mainGlobals "MOST_STEMS" = some (some (.int 16 t5)))
    {t6 : Tok} (v6 : PySem.W.nsIn K mainGlobals "MOST_TIES" = some (some (.int 30 t6)))
    (z0 : PySem.W.nsIn K mainGlobals "abs" = some none)
    (z1 : PySem.W.nsIn K mainGlobals "all" = some none)
    (z2 : PySem.W.nsIn K mainGlobals "bool" = some none)
    (z3 : PySem.W.nsIn K mainGlobals "enumerate" = some none)
    (z4 : PySem.W.nsIn K mainGlobals "int" = some none)
    (z5 : PySem.W.nsIn K mainGlobals "isinstance" = some none)
    (z6 : PySem.W.nsIn K mainGlobals "len" = some none)
    (z7 : PySem.W.nsIn K mainGlobals "max" = some none)
    (z8 : PySem.W.nsIn K mainGlobals "min" = some none)
    (z9 : PySem.W.nsIn K mainGlobals "range" = some none)
    (z10 : PySem.W.nsIn K mainGlobals "repr" = some none)
    (z11 : PySem.W.nsIn K mainGlobals "set" = some none)
    (z12 : PySem.W.nsIn K mainGlobals "sum" = some none)
    (z13 : PySem.W.nsIn K mainGlobals "tuple" = some none)
    (z14 : PySem.W.nsIn K mainGlobals "zip" = some none)
    : ∃ fd : FuncData, (∀ (s : Shared) (v : Value), BindsTo s fd ⟨[v], []⟩ [("_law_script", v)]) ∧
      ∀ base : Heap, K.In base → base.Ns mainGlobals mg → FnG l.prog w K mg base CX0 8 fa fd ["_law_script"] (SpP K preLaw0 fun _ => .bl true) := by
  have F_is_whole := fun_mk (st := s_is_whole) l0 c0 k0
  have g_is_whole := PySem.W.mg_of X G a0
  have F_is_within := fun_mk (st := s_is_within) l1 c1 k1
  have g_is_within := PySem.W.mg_of X G a1
  have F_product := fun_mk (st := s_product) l2 c2 k2
  have g_product := PySem.W.mg_of X G a2
  have F_like_counts := fun_mk (st := s_like_counts) l3 c3 k3
  have g_like_counts := PySem.W.mg_of X G a3
  have F_common_divisor := fun_mk (st := s_common_divisor) l4 c4 k4
  have g_common_divisor := PySem.W.mg_of X G a4
  have F_common_multiple := fun_mk (st := s_common_multiple) l5 c5 k5
  have g_common_multiple := PySem.W.mg_of X G a5
  have F_is_measure := fun_mk (st := s_is_measure) l6 c6 k6
  have g_is_measure := PySem.W.mg_of X G a6
  have F_tie_count := fun_mk (st := s_tie_count) l7 c7 k7
  have g_tie_count := PySem.W.mg_of X G a7
  have F_nought := fun_mk (st := s_nought) l8 c8 k8
  have g_nought := PySem.W.mg_of X G a8
  have F_tie_sum := fun_mk (st := s_tie_sum) l9 c9 k9
  have g_tie_sum := PySem.W.mg_of X G a9
  have F_tie_times := fun_mk (st := s_tie_times) l10 c10 k10
  have g_tie_times := PySem.W.mg_of X G a10
  have F_tie_order := fun_mk (st := s_tie_order) l11 c11 k11
  have g_tie_order := PySem.W.mg_of X G a11
  have F_even_table := fun_mk (st := s_even_table) l12 c12 k12
  have g_even_table := PySem.W.mg_of X G a12
  have F_table_tie := fun_mk (st := s_table_tie) l13 c13 k13
  have g_table_tie := PySem.W.mg_of X G a13
  have F_still_turning := fun_mk (st := s_still_turning) l14 c14 k14
  have g_still_turning := PySem.W.mg_of X G a14
  have F_lead_place := fun_mk (st := s_lead_place) l15 c15 k15
  have g_lead_place := PySem.W.mg_of X G a15
  have F_put_behind := fun_mk (st := s_put_behind) l16 c16 k16
  have g_put_behind := PySem.W.mg_of X G a16
  have F_moves_behind := fun_mk (st := s_moves_behind) l17 c17 k17
  have g_moves_behind := PySem.W.mg_of X G a17
  have F_turning_count := fun_mk (st := s_turning_count) l18 c18 k18
  have g_turning_count := PySem.W.mg_of X G a18
  have F_turn_times := fun_mk (st := s_turn_times) l19 c19 k19
  have g_turn_times := PySem.W.mg_of X G a19
  have F_doubled_times := fun_mk (st := s_doubled_times) l20 c20 k20
  have g_doubled_times := PySem.W.mg_of X G a20
  have F_turning_order := fun_mk (st := s_turning_order) l21 c21 k21
  have g_turning_order := PySem.W.mg_of X G a21
  have F_stem_ring := fun_mk (st := s_stem_ring) l22 c22 k22
  have g_stem_ring := PySem.W.mg_of X G a22
  have F_times_to := fun_mk (st := s_times_to) l23 c23 k23
  have g_times_to := PySem.W.mg_of X G a23
  have F_Frame_init := fun_mk (st := s_Frame_init) l24 c24 k24
  have M_Frame : Mk K cFrame f24 := ⟨q0m, a24, b24, q0k⟩
  have F_Frame_stem_count := fun_mk (st := s_Frame_stem_count) l25 c25 k25
  have e_Frame_stem_count : Meth K cFrame "stem_count" f25 := ⟨a25, b25, k25⟩
  have F_are_hues := fun_mk (st := s_are_hues) l26 c26 k26
  have g_are_hues := PySem.W.mg_of X G a26
  have F_is_hue := fun_mk (st := s_is_hue) l27 c27 k27
  have g_is_hue := PySem.W.mg_of X G a27
  have F_stays := funT_mk (st := s_stays) (dvs := [.int 1]) (by simp) (.cons (by first | rfl | exact ⟨_, rfl⟩) .nil) l28 h28 c28 k28
  have g_stays := PySem.W.mg_of X G a28
  have F_stem_stays := fun_mk (st := s_stem_stays) l29 c29 k29
  have g_stem_stays := PySem.W.mg_of X G a29
  have F_is_even := fun_mk (st := s_is_even) l30 c30 k30
  have g_is_even := PySem.W.mg_of X G a30
  have F__law_hand := fun_mk (st := s__law_hand) l31 c31 k31
  have g__law_hand := PySem.W.mg_of X G a31
  have F__law_take := fun_mk (st := s__law_take) l32 c32 k32
  have g__law_take := PySem.W.mg_of X G a32
  have F__law_of := fun_mk (st := s__law_of) l33 c33 k33
  have g__law_of := PySem.W.mg_of X G a33
  have F__law_sum := fun_mk (st := s__law_sum) l34 c34 k34
  have g__law_sum := PySem.W.mg_of X G a34
  have F__law_at := fun_mk (st := s__law_at) l35 c35 k35
  have g__law_at := PySem.W.mg_of X G a35
  have F__law_led := fun_mk (st := s__law_led) l36 c36 k36
  have g__law_led := PySem.W.mg_of X G a36
  have F__law_behind := fun_mk (st := s__law_behind) l37 c37 k37
  have g__law_behind := PySem.W.mg_of X G a37
  have F__law_still := fun_mk (st := s__law_still) l38 c38 k38
  have g__law_still := PySem.W.mg_of X G a38
  have F__law_knots := fun_mk (st := s__law_knots) l39 c39 k39
  have g__law_knots := PySem.W.mg_of X G a39
  have F__law_grids := fun_mk (st := s__law_grids) l40 c40 k40
  have g__law_grids := PySem.W.mg_of X G a40
  have F__law_orders := fun_mk (st := s__law_orders) l41 c41 k41
  have g__law_orders := PySem.W.mg_of X G a41
  have F__law_turnings := fun_mk (st := s__law_turnings) l42 c42 k42
  have g__law_turnings := PySem.W.mg_of X G a42
  have F__law_places := fun_mk (st := s__law_places) l43 c43 k43
  have g__law_places := PySem.W.mg_of X G a43
  have F__law_little := fun_mk (st := s__law_little) l44 c44 k44
  have g__law_little := PySem.W.mg_of X G a44
  have F__law_ring := fun_mk (st := s__law_ring) l45 c45 k45
  have g__law_ring := PySem.W.mg_of X G a45
  have F_law := fun_mk (st := s_law) l46 c46 k46
  have g_law := PySem.W.mg_of X G a46
  have g_Frame := PySem.W.mg_of X G p0
  have k_Frame : Own2 K cFrame "measure" "hues" := ⟨⟨q0g, q0h, q0o, q0s⟩, q0x, q0y⟩
  have c_LEAST_NUMBER := PySem.W.mg_of X G v0
  have c_LEAST_STEMS := PySem.W.mg_of X G v1
  have c_MOST_HUE := PySem.W.mg_of X G v2
  have c_MOST_NUMBER := PySem.W.mg_of X G v3
  have c_MOST_NUMBERS := PySem.W.mg_of X G v4
  have c_MOST_STEMS := PySem.W.mg_of X G v5
  have c_MOST_TIES := PySem.W.mg_of X G v6
  have m_abs := PySem.W.mg_none_of X G z0
  have m_all := PySem.W.mg_none_of X G z1
  have m_bool := PySem.W.mg_none_of X G z2
  have m_enumerate := PySem.W.mg_none_of X G z3
  have m_int := PySem.W.mg_none_of X G z4
  have m_isinstance := PySem.W.mg_none_of X G z5
  have m_len := PySem.W.mg_none_of X G z6
  have m_max := PySem.W.mg_none_of X G z7
  have m_min := PySem.W.mg_none_of X G z8
  have m_range := PySem.W.mg_none_of X G z9
  have m_repr := PySem.W.mg_none_of X G z10
  have m_set := PySem.W.mg_none_of X G z11
  have m_sum := PySem.W.mg_none_of X G z12
  have m_tuple := PySem.W.mg_none_of X G z13
  have m_zip := PySem.W.mg_none_of X G z14
  have e := hfa.symm.trans g_law
  cases e
  refine ⟨PySem.W.fnOf "law" "law" (defArgs s_law) (defBody s_law) (defScope s_law) .none kV46 dc46 pm46 an46 cd46 ct46, fun s v => .of_eq rfl, fun base _ _ => ?_⟩
  have G_is_whole := ok_is_whole (P := l.prog) (w := w) (mg := mg) (base := base) F_is_whole m_bool m_int m_isinstance
  have G_product := ok_product (P := l.prog) (w := w) (mg := mg) (base := base) F_product
  have G_like_counts := ok_like_counts (P := l.prog) (w := w) (mg := mg) (base := base) F_like_counts m_enumerate
  have G_common_divisor := ok_common_divisor (P := l.prog) (w := w) (mg := mg) (base := base) F_common_divisor
  have G_nought := ok_nought (P := l.prog) (w := w) (mg := mg) (base := base) F_nought m_len
  have G_tie_sum := ok_tie_sum (P := l.prog) (w := w) (mg := mg) (base := base) F_tie_sum m_tuple m_zip
  have G_tie_times := ok_tie_times (P := l.prog) (w := w) (mg := mg) (base := base) F_tie_times m_tuple m_zip
  have G_table_tie := ok_table_tie (P := l.prog) (w := w) (mg := mg) (base := base) F_table_tie m_max m_min
  have G_stem_ring := ok_stem_ring (P := l.prog) (w := w) (mg := mg) (base := base) F_stem_ring
  have G_Frame_stem_count := ok_Frame_stem_count (P := l.prog) (w := w) (mg := mg) (base := base) F_Frame_stem_count k_Frame m_len
  have G__law_hand := ok__law_hand (P := l.prog) (w := w) (mg := mg) (base := base) F__law_hand m_abs m_int m_len
  have G__law_take := ok__law_take (P := l.prog) (w := w) (mg := mg) (base := base) F__law_take
  have G__law_sum := ok__law_sum (P := l.prog) (w := w) (mg := mg) (base := base) F__law_sum m_tuple m_zip
  have G__law_at := ok__law_at (P := l.prog) (w := w) (mg := mg) (base := base) F__law_at
  have G__law_still := ok__law_still (P := l.prog) (w := w) (mg := mg) (base := base) F__law_still m_len m_range m_tuple
  have G__law_knots := ok__law_knots (P := l.prog) (w := w) (mg := mg) (base := base) F__law_knots m_range
  have G__law_orders := ok__law_orders (P := l.prog) (w := w) (mg := mg) (base := base) F__law_orders m_len m_range
  have G_is_within := ok_is_within (P := l.prog) (w := w) (mg := mg) (base := base) F_is_within F_is_whole G_is_whole g_is_whole
  have G_common_multiple := ok_common_multiple (P := l.prog) (w := w) (mg := mg) (base := base) F_common_multiple F_common_divisor G_common_divisor g_common_divisor
  have G_tie_count := ok_tie_count (P := l.prog) (w := w) (mg := mg) (base := base) F_tie_count F_product G_product g_product
  have G_tie_order := ok_tie_order (P := l.prog) (w := w) (mg := mg) (base := base) F_tie_order F_nought G_nought g_nought F_tie_times G_tie_times g_tie_times
  have G_even_table := ok_even_table (P := l.prog) (w := w) (mg := mg) (base := base) F_even_table F_nought G_nought g_nought F_Frame_stem_count G_Frame_stem_count k_Frame e_Frame_stem_count m_range m_tuple
  have G_lead_place := ok_lead_place (P := l.prog) (w := w) (mg := mg) (base := base) F_lead_place F_nought G_nought g_nought F_tie_sum G_tie_sum g_tie_sum F_table_tie G_table_tie g_table_tie F_Frame_stem_count G_Frame_stem_count k_Frame e_Frame_stem_count m_enumerate m_tuple
  have G_moves_behind := ok_moves_behind (P := l.prog) (w := w) (mg := mg) (base := base) F_moves_behind F_tie_sum G_tie_sum g_tie_sum F_table_tie G_table_tie g_table_tie k_Frame m_range m_tuple
  have G_is_even := ok_is_even (P := l.prog) (w := w) (mg := mg) (base := base) F_is_even F_nought G_nought g_nought F_tie_sum G_tie_sum g_tie_sum F_table_tie G_table_tie g_table_tie k_Frame
  have G__law_of := ok__law_of (P := l.prog) (w := w) (mg := mg) (base := base) F__law_of F__law_take G__law_take g__law_take m_len
  have G__law_led := ok__law_led (P := l.prog) (w := w) (mg := mg) (base := base) F__law_led F__law_sum G__law_sum g__law_sum F__law_at G__law_at g__law_at m_len m_range m_tuple
  have G__law_behind := ok__law_behind (P := l.prog) (w := w) (mg := mg) (base := base) F__law_behind F__law_sum G__law_sum g__law_sum F__law_at G__law_at g__law_at m_len m_range m_tuple
  have G__law_grids := ok__law_grids (P := l.prog) (w := w) (mg := mg) (base := base) F__law_grids F__law_knots G__law_knots g__law_knots m_range
  have G__law_places := ok__law_places (P := l.prog) (w := w) (mg := mg) (base := base) F__law_places F__law_knots G__law_knots g__law_knots m_len m_range
  have G_is_measure := ok_is_measure (P := l.prog) (w := w) (mg := mg) (base := base) F_is_measure F_is_within G_is_within g_is_within F_product G_product g_product c_LEAST_NUMBER c_MOST_NUMBER c_MOST_NUMBERS c_MOST_TIES m_all m_isinstance m_len m_tuple
  have G_still_turning := ok_still_turning (P := l.prog) (w := w) (mg := mg) (base := base) F_still_turning F_even_table G_even_table g_even_table F_Frame_stem_count G_Frame_stem_count k_Frame e_Frame_stem_count m_range m_tuple
  have G_put_behind := ok_put_behind (P := l.prog) (w := w) (mg := mg) (base := base) F_put_behind F_moves_behind G_moves_behind g_moves_behind F_Frame_stem_count G_Frame_stem_count k_Frame e_Frame_stem_count m_range m_tuple
  have G_turning_count := ok_turning_count (P := l.prog) (w := w) (mg := mg) (base := base) F_turning_count F_product G_product g_product F_like_counts G_like_counts g_like_counts F_tie_count G_tie_count g_tie_count F_Frame_stem_count G_Frame_stem_count k_Frame e_Frame_stem_count
  have G_times_to := ok_times_to (P := l.prog) (w := w) (mg := mg) (base := base) F_times_to F_lead_place G_lead_place g_lead_place
  have G_is_hue := ok_is_hue (P := l.prog) (w := w) (mg := mg) (base := base) F_is_hue F_is_within G_is_within g_is_within c_MOST_HUE
  have G_stem_stays := ok_stem_stays (P := l.prog) (w := w) (mg := mg) (base := base) F_stem_stays F_tie_count G_tie_count g_tie_count F_stem_ring G_stem_ring g_stem_ring F_Frame_stem_count G_Frame_stem_count F_is_even G_is_even g_is_even k_Frame e_Frame_stem_count m_min m_range
  have G__law_turnings := ok__law_turnings (P := l.prog) (w := w) (mg := mg) (base := base) F__law_turnings F__law_grids G__law_grids g__law_grids F__law_orders G__law_orders g__law_orders m_len
  have G__law_little := ok__law_little (P := l.prog) (w := w) (mg := mg) (base := base) F__law_little F__law_of G__law_of g__law_of
  have G__law_ring := ok__law_ring (P := l.prog) (w := w) (mg := mg) (base := base) F__law_ring F__law_led G__law_led g__law_led
  have G_doubled_times := ok_doubled_times (P := l.prog) (w := w) (mg := mg) (base := base) F_doubled_times F_still_turning G_still_turning g_still_turning F_put_behind G_put_behind g_put_behind
  have G_are_hues := ok_are_hues (P := l.prog) (w := w) (mg := mg) (base := base) F_are_hues F_is_within G_is_within g_is_within F_is_hue G_is_hue g_is_hue c_LEAST_STEMS c_MOST_STEMS m_all m_isinstance m_len m_tuple
  have G_turning_order := ok_turning_order (P := l.prog) (w := w) (mg := mg) (base := base) F_turning_order F_common_multiple G_common_multiple g_common_multiple F_tie_order G_tie_order g_tie_order F_doubled_times G_doubled_times g_doubled_times F_stem_ring G_stem_ring g_stem_ring k_Frame m_len
  have G_Frame_init := ok_Frame_init (P := l.prog) (w := w) (mg := mg) (base := base) F_Frame_init F_is_measure G_is_measure g_is_measure F_are_hues G_are_hues g_are_hues k_Frame
  have G_turn_times := ok_turn_times (P := l.prog) (w := w) (mg := mg) (base := base) F_turn_times F_doubled_times G_doubled_times g_doubled_times F_turning_order G_turning_order g_turning_order
  have G_stays := ok_stays (P := l.prog) (w := w) (mg := mg) (base := base) F_stays F_turn_times G_turn_times g_turn_times F_stem_stays G_stem_stays g_stem_stays m_enumerate m_sum
  exact ok_law F_law F_turning_count G_turning_count g_turning_count F_turning_order G_turning_order g_turning_order F_times_to G_times_to g_times_to F_Frame_init G_Frame_init F_stays G_stays g_stays F__law_hand G__law_hand g__law_hand F__law_of G__law_of g__law_of F__law_behind G__law_behind g__law_behind F__law_still G__law_still g__law_still F__law_turnings G__law_turnings g__law_turnings F__law_places G__law_places g__law_places F__law_little G__law_little g__law_little F__law_ring G__law_ring g__law_ring M_Frame g_Frame m_len m_max m_min m_range m_repr m_set
end Wl
open PySem PySem.W PyProof.Rows
set_option maxHeartbeats 0 in
theorem PySem.Challenge.cw_wholeturn_k80_whole_all_turnings_of_smal_holds : PySem.Challenge.rw_wholeturn_k80_whole_all_turnings_of_smal.Holds := by
  refine HdL.hd ?_
  k_fill
  refine Wt.walkG (l := PySem.Challenge.rw_wholeturn_k80_whole_all_turnings_of_smal) (n := 63) (k := 8) (x := "_law_script")
    (sp := fun K => (Wt.SpP K Wl.preLaw0 fun _ => .bl true)) rfl (by decide) rfl ⟨rfl, by decide, by decide⟩
    (fun w h Y => PySem.W.kIn_of Y) ?F (fun _ _ _ _ _ hO hS => Wt.law_start hO hS)
  case F =>
    intro w mg fa h KX G hmg
    refine' Wl.all_mk KX G hmg ?p0 ?q0g ?q0h ?q0o ?q0s ?q0m ?q0k ?q0x ?q0y ?a0 ?l0 ?c0 ?k0 ?a1 ?l1 ?c1 ?k1 ?a2 ?l2 ?c2 ?k2 ?a3 ?l3 ?c3 ?k3 ?a4 ?l4 ?c4 ?k4 ?a5 ?l5 ?c5 ?k5 ?a6 ?l6 ?c6 ?k6 ?a7 ?l7 ?c7 ?k7 ?a8 ?l8 ?c8 ?k8 ?a9 ?l9 ?c9 ?k9 ?a10 ?l10 ?c10 ?k10 ?a11 ?l11 ?c11 ?k11 ?a12 ?l12 ?c12 ?k12 ?a13 ?l13 ?c13 ?k13 ?a14 ?l14 ?c14 ?k14 ?a15 ?l15 ?c15 ?k15 ?a16 ?l16 ?c16 ?k16 ?a17 ?l17 ?c17 ?k17 ?a18 ?l18 ?c18 ?k18 ?a19 ?l19 ?c19 ?k19 ?a20 ?l20 ?c20 ?k20 ?a21 ?l21 ?c21 ?k21 ?a22 ?l22 ?c22 ?k22 ?a23 ?l23 ?c23 ?k23 ?a24 ?b24 ?l24 ?c24 ?k24 ?a25 ?b25 ?l25 ?c25 ?k25 ?a26 ?l26 ?c26 ?k26 ?a27 ?l27 ?c27 ?k27 ?a28 ?l28 ?h28 ?c28 ?k28 ?a29 ?l29 ?c29 ?k29 ?a30 ?l30 ?c30 ?k30 ?a31 ?l31 ?c31 ?k31 ?a32 ?l32 ?c32 ?k32 ?a33 ?l33 ?c33 ?k33 ?a34 ?l34 ?c34 ?k34 ?a35 ?l35 ?c35 ?k35 ?a36 ?l36 ?c36 ?k36 ?a37 ?l37 ?c37 ?k37 ?a38 ?l38 ?c38 ?k38 ?a39 ?l39 ?c39 ?k39 ?a40 ?l40 ?c40 ?k40 ?a41 ?l41 ?c41 ?k41 ?a42 ?l42 ?c42 ?k42 ?a43 ?l43 ?c43 ?k43 ?a44 ?l44 ?c44 ?k44 ?a45 ?l45 ?c45 ?k45 ?a46 ?l46 ?c46 ?k46 ?v0 ?v1 ?v2 ?v3 ?v4 ?v5 ?v6 ?z0 ?z1 ?z2 ?z3 ?z4 ?z5 ?z6 ?z7 ?z8 ?z9 ?z10 ?z11 ?z12 ?z13 ?z14
    (case p0 => k_is); (case q0g => k_is); (case q0h => k_is); (case q0o => k_is); (case q0s => k_is); (case q0m => k_is); (case q0k => k_is); (case q0x => k_is); (case q0y => k_is); (case a0 => k_is); (case l0 => k_is); (case c0 => k_is); (case k0 => k_is); (case a1 => k_is); (case l1 => k_is); (case c1 => k_is); (case k1 => k_is); (case a2 => k_is); (case l2 => k_is); (case c2 => k_is); (case k2 => k_is); (case a3 => k_is); (case l3 => k_is); (case c3 => k_is); (case k3 => k_is); (case a4 => k_is); (case l4 => k_is); (case c4 => k_is); (case k4 => k_is); (case a5 => k_is); (case l5 => k_is); (case c5 => k_is); (case k5 => k_is); (case a6 => k_is); (case l6 => k_is); (case c6 => k_is); (case k6 => k_is); (case a7 => k_is); (case l7 => k_is); (case c7 => k_is); (case k7 => k_is); (case a8 => k_is); (case l8 => k_is); (case c8 => k_is); (case k8 => k_is); (case a9 => k_is); (case l9 => k_is); (case c9 => k_is); (case k9 => k_is); (case a10 => k_is); (case l10 => k_is); (case c10 => k_is); (case k10 => k_is); (case a11 => k_is); (case l11 => k_is); (case c11 => k_is); (case k11 => k_is); (case a12 => k_is); (case l12 => k_is); (case c12 => k_is); (case k12 => k_is); (case a13 => k_is); (case l13 => k_is); (case c13 => k_is); (case k13 => k_is); (case a14 => k_is); (case l14 => k_is); (case c14 => k_is); (case k14 => k_is); (case a15 => k_is); (case l15 => k_is); (case c15 => k_is); (case k15 => k_is); (case a16 => k_is); (case l16 => k_is); (case c16 => k_is); (case k16 => k_is); (case a17 => k_is); (case l17 => k_is); (case c17 => k_is); (case k17 => k_is); (case a18 => k_is); (case l18 => k_is); (case c18 => k_is); (case k18 => k_is); (case a19 => k_is); (case l19 => k_is); (case c19 => k_is); (case k19 => k_is); (case a20 => k_is); (case l20 => k_is); (case c20 => k_is); (case k20 => k_is); (case a21 => k_is); (case l21 => k_is); (case c21 => k_is); (case k21 => k_is); (case a22 => k_is); (case l22 => k_is); (case c22 => k_is); (case k22 => k_is); (case a23 => k_is); (case l23 => k_is); (case c23 => k_is); (case k23 => k_is); (case a24 => k_is); (case b24 => k_is); (case l24 => k_is); (case c24 => k_is); (case k24 => k_is); (case a25 => k_is); (case b25 => k_is); (case l25 => k_is); (case c25 => k_is); (case k25 => k_is); (case a26 => k_is); (case l26 => k_is); (case c26 => k_is); (case k26 => k_is); (case a27 => k_is); (case l27 => k_is); (case c27 => k_is); (case k27 => k_is); (case a28 => k_is); (case l28 => k_is); (case h28 => k_is); (case c28 => k_is); (case k28 => k_is); (case a29 => k_is); (case l29 => k_is); (case c29 => k_is); (case k29 => k_is); (case a30 => k_is); (case l30 => k_is); (case c30 => k_is); (case k30 => k_is); (case a31 => k_is); (case l31 => k_is); (case c31 => k_is); (case k31 => k_is); (case a32 => k_is); (case l32 => k_is); (case c32 => k_is); (case k32 => k_is); (case a33 => k_is); (case l33 => k_is); (case c33 => k_is); (case k33 => k_is); (case a34 => k_is); (case l34 => k_is); (case c34 => k_is); (case k34 => k_is); (case a35 => k_is); (case l35 => k_is); (case c35 => k_is); (case k35 => k_is); (case a36 => k_is); (case l36 => k_is); (case c36 => k_is); (case k36 => k_is); (case a37 => k_is); (case l37 => k_is); (case c37 => k_is); (case k37 => k_is); (case a38 => k_is); (case l38 => k_is); (case c38 => k_is); (case k38 => k_is); (case a39 => k_is); (case l39 => k_is); (case c39 => k_is); (case k39 => k_is); (case a40 => k_is); (case l40 => k_is); (case c40 => k_is); (case k40 => k_is); (case a41 => k_is); (case l41 => k_is); (case c41 => k_is); (case k41 => k_is); (case a42 => k_is); (case l42 => k_is); (case c42 => k_is); (case k42 => k_is); (case a43 => k_is); (case l43 => k_is); (case c43 => k_is); (case k43 => k_is); (case a44 => k_is); (case l44 => k_is); (case c44 => k_is); (case k44 => k_is); (case a45 => k_is); (case l45 => k_is); (case c45 => k_is); (case k45 => k_is); (case a46 => k_is); (case l46 => k_is); (case c46 => k_is); (case k46 => k_is); (case v0 => k_is); (case v1 => k_is); (case v2 => k_is); (case v3 => k_is); (case v4 => k_is); (case v5 => k_is); (case v6 => k_is); (case z0 => k_is); (case z1 => k_is); (case z2 => k_is); (case z3 => k_is); (case z4 => k_is); (case z5 => k_is); (case z6 => k_is); (case z7 => k_is); (case z8 => k_is); (case z9 => k_is); (case z10 => k_is); (case z11 => k_is); (case z12 => k_is); (case z13 => k_is); (case z14 => k_is)

