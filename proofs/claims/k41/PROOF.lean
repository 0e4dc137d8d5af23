import PyProof.Rows.All
import Wide.All
import OpenK.AllK
import Wide.FinOn
import HandS.ForMost
import HandS.IsInst
import HandS.Wide
import HandS.TupAny
import HandS.TupMul
import HandS.RaiseMore
import HandS.Conv
import HandS.Strs
import PyProof.ReprLen
import HandS.Zip
import HandS.Walk
import HandS.Style
import KE.GoesNew
import KE.IntTextLaws
import PyProof.StrBlock2
import HandS.Text
import HandS.Steps
import KE.GoesEnum
import PyProof.EnumMake
import HandS.Dict
import KE.KDictZip
import HandS.TryOnly
import KE.KDictItemsList
import HandS.SetFor
import PyProof.Rows.IntBool
import PyProof.CallStr
import PyProof.PureInt
import PyProof.FactsAll.bool_2
import PyProof.Rows.RuleB_bool
import HandS.Defaults
import KE.SortData
import PyProof.Transfer
import HandS.TupSets
import KE.KDictKeyed
import KE.KDictLaws
import KE.DataFind
import HandS.Flow
import KE.KDictCopyH
import KE.KDictSum
import KE.KEqDict
import HandS.DictTup
import HandS.Deep
import PyProof.Rows.StrFit
import PyProof.Rows.EqBoolInt
import PyProof.DictMoreH
import PyProof.DictRoadsH
import KE.DataCmp
import KE.DatumOrd
import KE.KTupSum
import HandS.Small
import HandS.DictComp
import HandS.WideBits
import HandS.Iter
import KE.KExcSuper
import KE.KExcPX
import HandS.Exc
import HandS.ExcInit
import HandS.ExcField
import HandS.ExcIs
import HandS.ExcSuper
import KE.KExcIs
import KE.DataMinMax
import HandS.TupLen
import KE.KDictPairs
import HandS.More
import HandS.Remove
import PySem.Challenge.RW_wholeturn_k41_least_times_to_a_place
set_option Elab.async false
set_option linter.all false
set_option maxRecDepth 100000
set_option maxHeartbeats 4000000
namespace HdL
open PySem PySem.W PyProof.Rows
set_option maxHeartbeats 0 in
open_top hd for PySem.Challenge.rw_wholeturn_k41_least_times_to_a_place
end HdL
namespace Wt
open PySem PySem.Spec PyProof.Rows L2
structure FnG (P : Program) (w : World) (K : PySem.W.Frag)
    (mg : Str → Option Value) (base : Heap) (CX : CXT)
    (k : Nat) (f : Addr) (fd : FuncData) (ps : List Str)
    (sp : Sp) : Prop where
  len : ∀ vs H Q E, sp vs H Q E → vs.length = ps.length
  run : ∀ (A : Around) (outer : List Env) (s : Shared) (H : Hp)
    (args : Args) (us : List Value) (vs : List V) (Q : VK) (E : XK),
    A.guards = some [] → Room k A →
    Env0 P w K mg base A outer s H →
    BindsTo s fd args (ps.zip us) → Vals vs us → sp vs H Q E →
    codeAny (model P w) A (.call (.ref f) args)
      (CR CX outer P w H s Q E) s
section
variable {P : Program} {w : World} {K : PySem.W.Frag}
variable {mg : Str → Option Value} {base : Heap} {CX : CXT}
variable {j k : Nat} {f : Addr} {fd : FuncData} {ps : List Str} {sp : Sp}
theorem FnG.of (F : FnOk P w K mg base CX k f fd ps sp) :
    FnG P w K mg base CX k f fd ps sp :=
  ⟨F.len, fun A o s H a us vs Q E _ => F.run A o s H a us vs Q E⟩
theorem FnG.mono (F : FnG P w K mg base CX j f fd ps sp) (h : j ≤ k) :
    FnG P w K mg base CX k f fd ps sp :=
  ⟨F.len, fun A o s H a us vs Q E g r =>
    F.run A o s H a us vs Q E g (r.mono h)⟩
/-- a def of the text, its body read where no repr is under way -/
theorem okG {x qual : Str} {st : Stmt} {N : List Str}
    (F : Fun K x qual st f fd) (S : FnScope N ps (defScope st))
    (len : ∀ vs H Q E, sp vs H Q E → vs.length = ps.length)
    (hbody : ∀ (cdv : Value) (A : Around) (outer : List Env)
      (s : Shared) (H : Hp) (vs : List V) (Q : VK) (E : XK),
      A.guards = some [] →
      Room k (A.deeper
        (envOfC qual (defScope st) s.heap.objs.size f cdv)) →
      sp vs H Q E →
      ∃ t, PSs (cxOf CX0 P w K mg base N qual (defScope st) f cdv A
          outer s H E).nox (defBody st) t ∧
        t { nx := fun _ H' => Q .non H', rt := Q } (start N vs) H) :
    FnG P w K mg base CX0 (k + 1) f fd ps sp := by
  obtain ⟨oc, od, kV, doc, pm, an, cdv, ct, osl, rfl, lk, hcd⟩ := F.ex
  refine ⟨len, ?_⟩
  intro A outer s H args us vs Q E hG hr e0 hb r hsp
  have stays : ∀ b o, base.get? b = some o → s.heap.get? b = some o :=
    fun b o e => (e0.bs b o e).1
  have KX : K.In s.heap := e0.mod.kin.keeps stays
  have lim : s.heap.NoLimit := e0.mod.nolimit.keeps stays
  refine codeAny_call_function hr.depth (KX _ _ lk) rfl S.co S.gen rfl
    (PySem.W.codeRec_of KX hcd) (hb _ _ _ _ ?_)
  refine wpAny_newFunctionEnv_cells S.kind (fun y hy => ?_)
    fun env he s1 inc => ?_
  · rcases S.par y.1 (List.of_mem_zip (a := y.1) (b := y.2) hy).1 with q | q
    · exact .inl q
    · exact .inr ⟨q, PySem.W.cellsFrom_some _ _ _ (.inl q)⟩
  · subst he
    refine ⟨lim.keeps inc.toInCall.keep, codeAny_func ?_⟩
    obtain ⟨t, ht, hq⟩ := hbody cdv A outer s H vs Q E hG (hr.deeper _) hsp
    have I := inv_start (CX := CX0) (E := E) S hr.hd e0
      (len _ _ _ _ hsp) r inc
    refine wpAny_mono (ht.nox.run [] s1 (start N vs) H _ I hq)
      (fun fl s' hs => ?_) fun e s' hs => hs
    cases fl with
    | ret u =>
      obtain ⟨v, σ', H', J, rv, q⟩ := hs
      exact ⟨v, H', J.os, J.bare, J.base, J.hok, rv, q⟩
    | next =>
      obtain ⟨σ', H', J, q⟩ := hs
      exact ⟨V.non, H', J.os, J.bare, J.base, J.hok, rfl, q⟩
    | brk => exact hs.elim fun _ h => h.elim fun _ z => z.2.elim
    | cont => exact hs.elim fun _ h => h.elim fun _ z => z.2.elim
end
section
variable {X : Cx} {CX : CXT} {k : Nat} {f : Addr} {fd : FuncData}
variable {ps : List Str} {sp : Sp} {dvs : List V} {ds : List Value}
variable {E : XK} {x : Str} {p pos : Pos} {e : Expr} {es : List Expr}
variable {t : TA}
theorem run_fnG {pins : List (Addr × Obj)} {σ : L2.St} {H : Hp} {s : Shared}
    {Q : VK} {us : List Value} {vs : List V}
    (F : FnG X.prog X.w X.K X.mg X.base CX k f fd ps sp)
    (hG : X.A.guards = some []) (hr : Room k X.A)
    (hb : Binds X.K fd ps ds) (hd : Vals dvs ds) (hx : Passes CX X E)
    (I : Inv X pins σ H s) (r : Vals vs us) (h : sp (vs ++ dvs) H Q E) :
    wpAny (model X.prog X.w) X.A (call (.ref f) us)
      (EP X pins σ Q) X.xe s := by
  have r2 := r.append hd
  have hl : (us ++ ds).length = ps.length :=
    r2.length.symm.trans (F.len _ _ _ _ h)
  have go := F.run X.A X.stack s H ⟨us, []⟩ _ _ Q E hG hr I.env0
    (hb s us I.kIn hl) r2 h
  refine wpAny_call (codeAny_mono go fun res s' hq => ?_)
  match res, hq with
  | .error e, hq => exact hx pins σ H s e s' I hq
  | .ok (.ret u), hq => exact I.after hq
  | .ok .next, hq => exact False.elim hq
  | .ok .brk, hq => exact False.elim hq
  | .ok .cont, hq => exact False.elim hq
/-- f(e, ..) of such a def -/
theorem pe_callG (F : FnG X.prog X.w X.K X.mg X.base CX k f fd ps sp)
    (hG : X.A.guards = some []) (hr : Room k X.A) (hg : Gl X x)
    (hm : X.mg x = some (.ref f))
    (hk : PySem.W.keepIn X.K (.ref f) = true)
    (hb : Binds X.K fd ps ds) (hd : Vals dvs ds) (hx : Passes CX X E)
    (ha : PA X (e :: es) t)
    (hdb : (x == ("__debug__" : Str)) = false := by decide)
    (he : starEach (e :: es) X.env =
      (false, eval e X.env) :: starEach es X.env := by rfl)
    (hpl : (backTo pos (starEach es X.env)).any (·.1) = false := by rfl) :
    PE X (.Call (.Name x p) (e :: es) [] pos) (tCall sp dvs E t) := by
  constructor
  intro pins s σ H Q I h
  refine wpAny_Call_Name_kw (ld_glob I hg hm ?_ hdb)
  refine PySem.W.callWith_K (h₀ := X.base) I.ok.mod.kin hk
    (thn (ha.run pos pins s σ H _ I h) ?_) he hpl
  intro us s1 ⟨vs, H1, I1, r, q⟩
  exact ⟨I1.kIn, run_fnG F hG hr hb hd hx I1 r q⟩
end
/-- the law's own call, its def of this kind -/
theorem law_callG {P : Program} {w : World} {K : PySem.W.Frag}
    {mg mb : Str → Option Value} {CX : CXT} {k : Nat} {fa a : Addr}
    {fd : FuncData} {x : Str} {sp : Sp} {s1 : Shared} {vs : List Value}
    {ns : List Int}
    (KX : K.In s1.heap) (hns : s1.heap.Ns mainGlobals mg)
    (hb : s1.heap.Ns builtinsNs mb)
    (hbb : ∀ x : Str, x ≠ "__name__" → mb x = bootBuiltins x)
    (hlim : s1.heap.NoLimit) (hg : s1.gens = #[])
    (ha : s1.heap.get? a =
      some { cls := .type "list", data := .seq vs.toArray })
    (hi : IntsAre vs ns) (hl : ns.length ≤ sizeLine)
    (hr : Room k callerA)
    (F : ∀ base : Heap, K.In base → base.Ns mainGlobals mg →
      FnG P w K mg base CX k fa fd [x] sp)
    (hbind : ∀ (s : Shared) (u : Value), BindsTo s fd ⟨[u], []⟩ [(x, u)])
    (hsp : ∀ H : Hp, Only H → SqL K H a (ns.map V.int) →
      sp [.ref a] H (fun v _ => v = .bl true) fun _ _ _ => False)
    (hCX : ∀ H e s', CX [] H s1 (fun _ _ _ => False) e s' → False) :
    codeAny (model P w) callerA (.call (.ref fa) ⟨[.ref a], []⟩)
      (fun r s' => r = .ok (.ret (.bool true)) ∧ OldK s1.heap s'.heap ∧
        s'.os = s1.os ∧ AllBare s'.gens) s1 := by
  have rv := vals_ints hi
  have main : ∀ H : Hp, Only H → SqL K H a (ns.map V.int) →
      HOk P w H s1.heap → (∀ b, H b ≠ none → b = a ∧ K.lookup b = none) →
      codeAny (model P w) callerA (.call (.ref fa) ⟨[.ref a], []⟩)
        (fun r s' => r = .ok (.ret (.bool true)) ∧ OldK s1.heap s'.heap ∧
          s'.os = s1.os ∧ AllBare s'.gens) s1 := by
    intro H hO hS hok hA
    have dictFree : ∀ {b : Addr} {o : Obj} {es : Array DictEntry} {n : Nat},
        s1.heap.get? b = some o → o.data = .dict es n → H b = none := by
      intro b o es n e d
      cases q : H b with
      | none => rfl
      | some u =>
        have eb := (hA b (by rw [q]; exact nofun)).1
        subst eb
        rw [ha] at e
        cases e
        exact nomatch d
    have nsK : ∀ {b : Addr} {m : Str → Option Value},
        s1.heap.Ns b m → (hidT s1.heap H).Ns b m := by
      intro b m ⟨o, es, ep, e, d, r⟩
      exact ⟨o, es, ep, hidT_get e (dictFree e d), d, r⟩
    have hKb : K.In (hidT s1.heap H) := by
      intro b o e
      refine hidT_get (KX b o e) ?_
      cases q : H b with
      | none => rfl
      | some u =>
        rw [(hA b (by rw [q]; exact nofun)).2] at e
        cases e
    obtain ⟨mc, l1, l2⟩ := hlim
    have hM : Mod K mg (hidT s1.heap H) :=
      ⟨hKb, nsK hns, ⟨mb, nsK hb, hbb⟩, ⟨mc, nsK l1, l2⟩⟩
    have e0 : Env0 P w K mg (hidT s1.heap H) callerA [] s1 H :=
      { frames := rfl, mod := hM, bs := fun b o e => of_hidT e,
        bsz := Nat.le_of_eq (hidT_size _ _), funs := trivial,
        frf := fun b z => (nomatch z), hok := hok, bare := .of_eq hg }
    have go := (F _ hKb (nsK hns)).run callerA [] s1 H ⟨[.ref a], []⟩
      [.ref a] [.ref a] _ _ rfl hr e0 (hbind s1 (.ref a))
      (.cons rfl .nil) (hsp H hO hS)
    refine codeAny_mono go fun res s' h => ?_
    match res, h with
    | .error e, h => exact (hCX H e s' h).elim
    | .ok .next, h => exact False.elim h
    | .ok .brk, h => exact False.elim h
    | .ok .cont, h => exact False.elim h
    | .ok (.ret u), h =>
      obtain ⟨v, H', os, bare, un, hok', r', q⟩ := h
      cases (show v = .bl true from q)
      obtain rfl : u = Value.bool true := r'
      refine ⟨rfl, OldK.of_keep fun b o e => ?_, os, bare⟩
      rcases hO b with z | ⟨ob, xs, z⟩
      · exact un.keep b o e z (fun m => nomatch m) (fun m => nomatch m)
      · have z1 := (hok b _ z).1
        rw [e] at z1
        cases z1
        exact (hok' b _ (un.frzs b _ _ z)).1
  cases hk : K.lookup a with
  | some o =>
    have e := KX a o hk
    rw [ha] at e
    cases e
    refine main (fun _ => none) (fun _ => .inl rfl) (.inr ?_)
      (fun b u z => (nomatch z)) (fun b z => absurd rfl z)
    refine ⟨_, vs.toArray, _, hk, rfl, rfl, rfl, ?_, by simpa using rv⟩
    rw [List.size_toArray, hi.length]
    exact hl
  | none =>
    let ob : Obj := { cls := .type "list", data := .seq vs.toArray }
    let H0 : Hp := fun b =>
      if b = a then some (.frz ob (.lst (ns.map V.int))) else none
    have at_a : H0 a = some (.frz ob (.lst (ns.map V.int))) := if_pos rfl
    have off_a : ∀ b, b ≠ a → H0 b = none := fun b h => if_neg h
    refine main H0 (fun b => ?_) (.inl (.inr ⟨ob, at_a⟩))
      (fun b u z => ?_) (fun b z => ?_)
    · by_cases h : b = a
      · subst h
        exact .inr ⟨_, _, at_a⟩
      · exact .inl (off_a b h)
    · by_cases h : b = a
      · subst h
        rw [at_a] at z
        cases z
        refine ⟨ha, ?_, vs, _, rv, ha⟩
        rw [List.length_map]
        exact hl
      · rw [off_a b h] at z
        cases z
    · by_cases h : b = a
      · subst h
        exact ⟨rfl, hk⟩
      · exact absurd (off_a b h) z
theorem walkG {l : PySem.W.OpenLaw} {n k : Nat} {q : Program}
    {loose : List Str} {XP : (Str → Option Value) → Heap → Prop}
    {YP : World → Heap → Prop} {d : DefRec} {K : Params → PySem.W.Frag}
    {sp : PySem.W.Frag → Sp} {x : Str}
    (hn : l.most = some n) (hn2 : n ≤ sizeLine)
    (hdf : d.params.defaults = []) (hr : Room k callerA)
    (hY : ∀ (w : World) (h : Heap), YP w h → (K w.params).In h)
    (F : ∀ (w : World) (mg : Str → Option Value) (fa : Addr) (h : Heap),
      (K w.params).In h → h.Ns mainGlobals mg →
      mg d.name = some (.ref fa) →
      ∃ fd : FuncData,
        (∀ (s : Shared) (u : Value), BindsTo s fd ⟨[u], []⟩ [(x, u)]) ∧
        ∀ base : Heap, (K w.params).In base → base.Ns mainGlobals mg →
          FnG l.prog w (K w.params) mg base CX0 k fa fd [x]
            (sp (K w.params)))
    (hsp : ∀ (K : PySem.W.Frag) (H : Hp) (a : Addr) (ns : List Int),
      ns.length ≤ n → Only H → SqL K H a (ns.map V.int) →
      sp K [.ref a] H (fun v _ => v = .bl true) fun _ _ _ => False) :
    PySem.W.WalkO q loose XP YP l.row.toRowW d []
      (fun f vs => PySem.call f vs) := by
  refine Att.attach_call hn hdf ?_
  intro w s0 s1 mg mb fa o pm cd doc a vs ns G Y ho hd hcd hmg hobj hints
    hlen hg
  obtain ⟨fd, hb, hF⟩ := F w mg fa _ (hY w _ Y) G.T.g hmg
  exact law_callG (hY w _ Y) G.T.g G.T.b G.T.builtins G.T.nolimit hg hobj
    hints (Nat.le_trans hlen hn2) hr hF hb
    (fun H hO hS => hsp _ H a ns hlen hO hS) fun H e s' z => z
end Wt

namespace Wt
open PySem PySem.Spec PyProof.Rows L2
def NewT (H : Hp) (xs : List V) (Q : VK) : Prop :=
  ∀ (p : Addr) (o : Obj), H p = none → o.dict = none →
    o.cls = .type "tuple" → Q (.ref p) (upd H p (.frz o (.tup xs)))
section
variable {X : Cx}
theorem ep_newT {pins : List (Addr × Obj)} {σ : L2.St} {H : Hp} {s : Shared}
    {xs : List V} {its : List Value} {n tk : Nat} {Q : VK}
    (I : Inv X pins σ H s) (hz : xs.length ≤ sizeLine) (r : Vals xs its)
    (q : NewT H xs Q) :
    EP X pins σ Q (.ref s.heap.objs.size) { s with heap := (s.heap.push
      (Obj.mk (.type "tuple") none (.seq its.toArray n) #[])), toks := tk } := by
  have g := Heap.get?_push_size s.heap
    (o := Obj.mk (.type "tuple") none (.seq its.toArray n) #[]) rfl
  refine ⟨.ref s.heap.objs.size, _, I.laid (t' := tk)
    (o := .frz (Obj.mk (.type "tuple") none (.seq its.toArray n) #[])
      (.tup xs)) (fun b ob e => Heap.get?_push_of_some _ e)
    (Nat.le_refl _) ?_, rfl, q _ _ (I.hok.fresh (Nat.le_refl _)) rfl rfl⟩
  exact ⟨g, hz, its, r, ⟨_, g, rfl, n, rfl⟩⟩
def tTupC (t : TA) : TE := fun σ H Q => t σ H fun xs H1 =>
  xs.length ≤ sizeLine ∧ NewT H1 xs Q
theorem pe_tupC {es : List Expr} {t : TA} {pos : Pos} {x1} (h : PA X es t) :
    PE X (.Tuple es x1 pos) (tTupC t) := by
  refine ⟨fun pins s σ H Q I hq => ?_⟩
  refine wpAny_Tuple_spliced (thn (h.run pos pins s σ H _ I hq)
    fun us s1 ⟨xs, H1, I1, r, z, q⟩ => ⟨by rw [← r.length]; exact z, ?_⟩)
  exact ep_newT I1 z r q
abbrev rTupC (K : PySem.W.Frag) : List V → Hp → VK → Prop := fun xs H Q =>
  ∃ p ys, xs = [.ref p] ∧ ((SqL K H p ys ∧ NewT H ys Q) ∨
    (SqT K H p ys ∧ Q (.ref p) H))
theorem call_tupC : CallR X (.type "tuple") (rTupC X.K) := by
  intro pins s σ H xs us Q I r h
  obtain ⟨p, ys, rfl, h⟩ := h
  obtain ⟨u, rfl, rx⟩ := vals1 r
  cases rx
  rcases h with ⟨hq, q⟩ | ⟨hq, q⟩
  · obtain ⟨its, r', pl, hz⟩ := I.list hq
    have hlen := r'.length
    refine call_tuple_list pl.isList (fun h' kp => ?_)
      (by simp only [List.size_toArray]; omega)
    have I1 : Inv X pins σ H { s with heap := h' } := I.kept (t' := s.toks) kp
    exact ep_newT I1 hz r' q
  · obtain ⟨its, r', pl, hz⟩ := I.tuple hq
    exact call_tuple_same pl ⟨.ref p, H, I, rfl, q⟩
def rCatC (K : PySem.W.Frag) : R2 := fun x y H Q => ∃ a b xs ys,
  x = .ref a ∧ y = .ref b ∧ SqT K H a xs ∧ SqT K H b ys ∧
  xs.length + ys.length ≤ sizeLine ∧ (xs = [] → Q (.ref b) H) ∧
  (xs ≠ [] → ys = [] → Q (.ref a) H) ∧
  (xs ≠ [] → ys ≠ [] → NewT H (xs ++ ys) Q)
theorem op_catC : OpR X (binaryOp .Add) (rCatC X.K) := by
  intro pins s σ H x y v u Q I rx ry h
  obtain ⟨a, b, xs, ys, rfl, rfl, ha, hb, hz, q0, q1, q2⟩ := h
  cases rx
  cases ry
  obtain ⟨its, r1, p1, _⟩ := I.tuple ha
  obtain ⟨its2, r2, p2, _⟩ := I.tuple hb
  by_cases hx : xs = []
  · subst hx
    cases r1
    exact cat_tup0 p1 p2 ⟨.ref b, H, I, rfl, q0 rfl⟩
  · refine HT.cat_tup p1 p2 (fun z => hx (r1.nil_iff.mp z))
      (fun z => ⟨.ref a, H, I, rfl, q1 hx (r2.nil_iff.mp z)⟩) (fun z => ?_)
      (by rw [← r1.length, ← r2.length]; exact hz)
    exact ep_newT (tk := s.toks) I (by rw [List.length_append]; exact hz)
      (r1.append r2) (q2 hx fun w => z (r2.nil_iff.mpr w))
def rSlC (K : PySem.W.Frag) : V → Option Int → Option Int → Hp → VK → Prop :=
  fun x lo hi H Q => ∃ a xs, x = .ref a ∧ SqT K H a xs ∧
  (HT.sIx xs.length 0 lo = 0 ∧ HT.sIx xs.length xs.length hi = xs.length →
    Q (.ref a) H) ∧
  (¬ (HT.sIx xs.length 0 lo = 0 ∧ HT.sIx xs.length xs.length hi = xs.length) →
    NewT H (cutV xs lo hi) Q)
theorem sl_tupC : SlR X (rSlC X.K) := by
  intro pins s σ H x v vl vu lo hi sl Q I rx hs pl pu h
  obtain ⟨a, xs, rfl, hx, q1, q2⟩ := h
  cases rx
  obtain ⟨its, r, ht, hz⟩ := I.tuple hx
  have hlen : its.toArray.size = xs.length := by
    rw [List.size_toArray]; exact r.length.symm
  refine ⟨"tuple", _, PyProof.Rows.slot_tuple_getitem.lookup, ht.typeIs, ?_⟩
  by_cases hw : HT.sIx xs.length 0 lo = 0 ∧
      HT.sIx xs.length xs.length hi = xs.length
  · exact getItem_tuple_whole ht hs pl pu (by rw [hlen]; exact hw)
      ⟨.ref a, H, I, rfl, q1 hw⟩
  · refine HT.getItem_tuple_cut ht hs pl pu (by rw [hlen]; exact hw) ?_
      (by rw [hlen]; exact hz)
    rw [hlen]
    exact ep_newT (tk := s.toks) I (Nat.le_trans (cutV_length xs lo hi) hz)
      ((r.drop (HT.sIx xs.length 0 lo)).take
        (HT.sIx xs.length xs.length hi - HT.sIx xs.length 0 lo)) (q2 hw)
def tTupRgC (te : L2.St → Hp → (Int → Int → Hp → Prop) → Prop) : TE :=
  fun σ H Q => te σ H fun a b H1 => RgOk a b ∧ NewT H1 (rgV a b) Q
theorem pe_tupRgC {e : Expr}
    {te : L2.St → Hp → (Int → Int → Hp → Prop) → Prop} {p pos : Pos}
    (hc : X.calm = true) (hg : Gl X "tuple") (hm : X.mg "tuple" = none)
    (he : PRg X e te) (na : starEach [e] X.env =
      (false, eval e X.env) :: starEach [] X.env := by rfl) :
    PE X (.Call (.Name "tuple" p) [e] [] pos) (tTupRgC te) := by
  refine ⟨fun pins s σ H Q I h => ?_⟩
  refine Call_ (ld_blt I hg hm boot_tuple (PyProof.Rows.callWith_type1
    (args_cons (thn (he pins s σ H _ I h)
      fun x s1 ⟨r, a, b, t, u, v, H1, ex, hr, I1, ok, q⟩ => args_nil ?_) na) na))
  subst ex
  obtain ⟨b1, b2, b3, b4, b5⟩ := ok
  refine call_tuple_range (n := (b - a).toNat) (I1.ok.hd hc) hr
    (small_one b1 b2 b3 b4) (rangeSize_nat a b) b5 fun h' tk acc hk hi => ?_
  have I2 : Inv X pins σ H1 { s1 with heap := h', toks := tk } := I1.kept hk
  have := ep_newT (its := acc.toList) (n := 0) (tk := tk) I2
    (by rw [rgV_length, sizeLine_eq]; omega) (vals_rg hi) q
  rw [Array.toArray_toList] at this
  exact this
/-- a tuple whose object has no dict -/
def Cln (H : Hp) (a : Addr) : Prop :=
  ∃ (o : Obj) (xs : List V), H a = some (.frz o (.tup xs)) ∧ o.dict = none
end
end Wt

namespace Wt
open PySem PySem.Spec PyProof.Rows L2
inductive D where
  | non
  | bl (b : Bool)
  | int (i : Int)
  | str (x : Str)
  | lst (xs : List D)
  | tup (xs : List D)
  | dic (kis : List (Int × Int))
  | ins (C : Addr) (ns : List Str) (xs : List D)
  | scr (ns : List Int)
  | dct (ks : List Key) (xs : List D)
/-- the law's script: known to its object, or one of the module's own -/
def Scr (K : PySem.W.Frag) (B : Hp) (a : Addr) (xs : List V) : Prop :=
  (∃ o, B a = some (.frz o (.lst xs))) ∨
    ∃ (o : Obj) (its : Array Value) (n : Nat), K.lookup a = some o ∧
      o.cls = .type "list" ∧ o.dict = none ∧ o.data = .seq its n ∧
      its.size ≤ sizeLine ∧ Vals xs its.toList
theorem Scr.seq {K : PySem.W.Frag} {B H : Hp} {a : Addr} {xs : List V}
    (h : Scr K B a xs) (s : Same B H) : SqL K H a xs := by
  rcases h with ⟨o, h⟩ | h
  · exact .inl (.inr ⟨o, s _ _ h⟩)
  · exact .inr h
theorem Scr.mono {K : PySem.W.Frag} {B H : Hp} {a : Addr} {xs : List V}
    (h : Scr K B a xs) (s : Same B H) : Scr K H a xs := by
  rcases h with ⟨o, h⟩ | h
  · exact .inl ⟨o, s _ _ h⟩
  · exact .inr h
mutual
inductive Is (K : PySem.W.Frag) (B : Hp) : V → D → Prop
  | non : Is K B .non .non
  | bl (b : Bool) : Is K B (.bl b) (.bl b)
  | int (i : Int) : Is K B (.int i) (.int i)
  | str (x : Str) : Is K B (.str x) (.str x)
  | lst {a : Addr} {xs : List V} {ds : List D} :
      B a = some (.lst xs) → IsAll K B xs ds → Is K B (.ref a) (.lst ds)
  | tup {a : Addr} {xs : List V} {ds : List D} :
      SqT K B a xs → IsAll K B xs ds → Cln B a → Is K B (.ref a) (.tup ds)
  | dic {a : Addr} {kis : List (Int × Int)} :
      Rd B a (.dK (kis.map fun p => (Sum.inl p.1, V.int p.2))) →
      Is K B (.ref a) (.dic kis)
  | ins {a dx C : Addr} {ns : List Str} {xs : List V} {ds : List D} :
      B a = some (.ins C dx (ns.zip xs)) → IsAll K B xs ds →
      Is K B (.ref a) (.ins C ns ds)
  | scr {a : Addr} {ns : List Int} :
      Scr K B a (ns.map V.int) → Is K B (.ref a) (.scr ns)
  | dct {a : Addr} {ks : List Key} {vs : List V} {ds : List D} :
      Rd B a (.dK (ks.zip vs)) → ks.length = ds.length → IsAll K B vs ds → Is K B (.ref a) (.dct ks ds)
inductive IsAll (K : PySem.W.Frag) (B : Hp) : List V → List D → Prop
  | nil : IsAll K B [] []
  | cons {v : V} {vs : List V} {d : D} {ds : List D} :
      Is K B v d → IsAll K B vs ds → IsAll K B (v :: vs) (d :: ds)
end
section
variable {K : PySem.W.Frag} {B B2 H : Hp} {a : Addr} {xs : List V}
theorem sameT (s : Same B B2) (h : SqT K B a xs) : SqT K B2 a xs := by
  rcases h with (h | ⟨o, h⟩) | h
  · exact .inl (.inl (s _ _ h))
  · exact .inl (.inr ⟨o, s _ _ h⟩)
  · exact .inr h
theorem Cln.mono (s : Same B B2) (h : Cln B a) : Cln B2 a := by
  obtain ⟨o, xs, e, d⟩ := h
  exact ⟨o, xs, s _ _ e, d⟩
theorem rdMono {u : HO} (s : Same B B2) (h : Rd B a u) : Rd B2 a u := by
  rcases h with h | ⟨o, h⟩
  · exact .inl (s _ _ h)
  · exact .inr ⟨o, s _ _ h⟩
mutual
theorem Is.mono (s : Same B B2) : ∀ {v : V} {d : D}, Is K B v d → Is K B2 v d
  | _, _, .non => .non
  | _, _, .bl b => .bl b
  | _, _, .int i => .int i
  | _, _, .str x => .str x
  | _, _, .lst h r => .lst (s _ _ h) (IsAll.mono s r)
  | _, _, .tup h r c => .tup (sameT s h) (IsAll.mono s r) (c.mono s)
  | _, _, .dic h => .dic (rdMono s h)
  | _, _, .ins h r => .ins (s _ _ h) (IsAll.mono s r)
  | _, _, .scr h => .scr (h.mono s)
  | _, _, .dct h e r => .dct (rdMono s h) e (IsAll.mono s r)
theorem IsAll.mono (s : Same B B2) :
    ∀ {vs : List V} {ds : List D}, IsAll K B vs ds → IsAll K B2 vs ds
  | _, _, .nil => .nil
  | _, _, .cons h r => .cons (h.mono s) (IsAll.mono s r)
end
theorem IsAll.length {vs : List V} {ds : List D} :
    IsAll K B vs ds → vs.length = ds.length := by
  intro h
  induction ds generalizing vs with
  | nil => cases h; rfl
  | cons d ds ih =>
    cases h with
    | cons h r => rw [List.length_cons, List.length_cons, ih r]
theorem IsAll.get : ∀ {vs : List V} {ds : List D} {i : Nat} {v : V},
    IsAll K B vs ds → vs[i]? = some v → ∃ d, ds[i]? = some d ∧ Is K B v d
  | _, _, _, _, .nil, e => by simp at e
  | _, _, 0, _, .cons h _, e => by
    simp at e; subst e; exact ⟨_, rfl, h⟩
  | _, _, i + 1, v, .cons _ r, e => by
    obtain ⟨d, h1, h2⟩ := IsAll.get (i := i) (v := v) r (by simpa using e)
    exact ⟨d, by simpa using h1, h2⟩
theorem IsAll.got : ∀ {vs : List V} {ds : List D} {i : Nat} {d : D},
    IsAll K B vs ds → ds[i]? = some d → ∃ v, vs[i]? = some v ∧ Is K B v d
  | _, _, _, _, .nil, e => by simp at e
  | _, _, 0, _, .cons h _, e => by
    simp at e; subst e; exact ⟨_, rfl, h⟩
  | _, _, i + 1, d, .cons _ r, e => by
    obtain ⟨v, h1, h2⟩ := IsAll.got (i := i) (d := d) r (by simpa using e)
    exact ⟨v, by simpa using h1, h2⟩
theorem IsAll.append : ∀ {vs ws : List V} {ds es : List D},
    IsAll K B vs ds → IsAll K B ws es → IsAll K B (vs ++ ws) (ds ++ es)
  | _, _, _, _, .nil, s => s
  | _, _, _, _, .cons h r, s => .cons h (IsAll.append r s)
theorem IsAll.take (n : Nat) : ∀ {vs : List V} {ds : List D},
    IsAll K B vs ds → IsAll K B (vs.take n) (ds.take n) := by
  induction n with
  | zero => intro vs ds _; exact .nil
  | succ n ih =>
    intro vs ds h
    cases h with
    | nil => exact .nil
    | cons h r => exact .cons h (ih r)
theorem IsAll.drop (n : Nat) : ∀ {vs : List V} {ds : List D},
    IsAll K B vs ds → IsAll K B (vs.drop n) (ds.drop n) := by
  induction n with
  | zero => intro vs ds h; exact h
  | succ n ih =>
    intro vs ds h
    cases h with
    | nil => exact .nil
    | cons h r => exact ih r
end
theorem same_new {H : Hp} {p : Addr} {o : HO} (h : H p = none) :
    Same H (upd H p o) := fun b x e => by
  rw [upd_ne (ne_of_none e h)]
  exact e
/-- the law's own hand: what is left of its digits, its seed, its count -/
def Hand (H : Hp) (l : Addr) (n : Nat) : Prop :=
  ∃ g s c : Int, H l = some (.lst [.int g, .int s, .int c]) ∧
    0 ≤ g ∧ g < 10 ^ 600 ∧ 0 ≤ s ∧ s < 2 ^ 61 ∧ 0 ≤ c ∧ c ≤ n
theorem Hand.mono {H : Hp} {l : Addr} {n m : Nat} (h : Hand H l n)
    (hm : n ≤ m) : Hand H l m := by
  obtain ⟨g, s, c, e, a1, a2, a3, a4, a5, a6⟩ := h
  exact ⟨g, s, c, e, a1, a2, a3, a4, a5, by omega⟩
theorem Hand.some {H : Hp} {l : Addr} {n : Nat} (h : Hand H l n) :
    H l ≠ none := by
  obtain ⟨g, s, c, e, _⟩ := h
  rw [e]
  exact nofun
inductive Sl where
  | dat (d : D)
  | own (ds : List D)
  | hand
  | obj (R : Hp → Addr → HO → Prop)
def Sl.owns : Sl → Bool
  | .own _ => true
  | .obj _ => true
  | _ => false
abbrev Ro := List (Option Sl)
def SlV (K : PySem.W.Frag) (l : Option Addr) (Z : Addr → Prop)
    (B H : Hp) (v : V) : Sl → Prop
  | .dat d => Is K B v d
  | .own ds => ∃ a xs, v = .ref a ∧ H a = some (.lst xs) ∧ B a = none ∧
      ¬ Z a ∧ l ≠ some a ∧ IsAll K B xs ds
  | .hand => ∃ a, l = some a ∧ v = .ref a
  | .obj R => ∃ a o, v = .ref a ∧ H a = some o ∧ B a = none ∧
      ¬ Z a ∧ l ≠ some a ∧ R B a o ∧
      ∀ B1 B2, Same B1 B2 → R B1 a o → R B2 a o
theorem SlV.owned {K : PySem.W.Frag} {l : Option Addr} {Z : Addr → Prop}
    {B H : Hp} {v : V} {s : Sl} (o : s.owns = true) (q : SlV K l Z B H v s) :
    ∃ a x, v = .ref a ∧ H a = some x ∧ B a = none ∧ ¬ Z a ∧ l ≠ some a := by
  cases s with
  | dat d => cases o
  | hand => cases o
  | own ds =>
    obtain ⟨a, xs, e, q1, q2, q3, q4, _⟩ := q
    exact ⟨a, _, e, q1, q2, q3, q4⟩
  | obj R =>
    obtain ⟨a, x, e, q1, q2, q3, q4, _⟩ := q
    exact ⟨a, x, e, q1, q2, q3, q4⟩
structure Bs (l : Option Addr) (Z : Addr → Prop) (m : Nat) (B H : Hp) :
    Prop where
  sub : Same B H
  hand : ∀ a, l = some a → Hand H a m ∧ B a = none
  zs : ∀ z, Z z → H z ≠ none ∧ B z = none ∧ l ≠ some z
structure Ok (K : PySem.W.Frag) (l : Option Addr) (Z : Addr → Prop)
    (m : Nat) (B H : Hp) (σ : L2.St) (ρ : Ro) : Prop extends
    Bs l Z m B H where
  len : σ.length = ρ.length
  sl : ∀ (i : Nat) s, ρ[i]? = some (some s) →
    ∃ v, σ[i]? = some (some v) ∧ SlV K l Z B H v s
  dis : ∀ (i j : Nat) (s t : Sl) a, i ≠ j → s.owns = true →
    t.owns = true → ρ[i]? = some (some s) → ρ[j]? = some (some t) →
    σ[i]? = some (some (.ref a)) → σ[j]? ≠ some (some (.ref a))
structure Fr (Z : Addr → Prop) (B H B2 H2 : Hp) : Prop where
  sub : Same B B2
  kept : ∀ z, Z z → H2 z = H z
section
variable {K : PySem.W.Frag} {l : Option Addr} {Z : Addr → Prop}
variable {m m' : Nat} {B H B1 H1 B2 H2 : Hp} {σ : L2.St} {ρ : Ro}
theorem Fr.refl : Fr Z B H B H := ⟨Same.refl B, fun _ _ => rfl⟩
theorem Fr.trans (a : Fr Z B H B1 H1) (b : Fr Z B1 H1 B2 H2) :
    Fr Z B H B2 H2 :=
  ⟨a.sub.trans b.sub, fun z h => (b.kept z h).trans (a.kept z h)⟩
theorem Bs.mono (h : Bs l Z m B H) (hm : m ≤ m') : Bs l Z m' B H :=
  ⟨h.sub, fun a e => ⟨(h.hand a e).1.mono hm, (h.hand a e).2⟩, h.zs⟩
/-- the state over a heap in which more stands: all own lists, the hand and what is kept are as they were -/
theorem Ok.step (h : Ok K l Z m B H σ ρ) (hs : Same B B2) (hB : Same B2 H2)
    (hh : ∀ a, l = some a → Hand H2 a m')
    (hk : ∀ a o, l ≠ some a → H a = some o → H2 a = some o)
    (hf : ∀ a, H a ≠ none → B a = none → B2 a = none) :
    Ok K l Z m' B2 H2 σ ρ ∧ Fr Z B H B2 H2 := by
  have keep : ∀ z, l ≠ some z → H z ≠ none → H2 z = H z := by
    intro z hz hn
    cases e : H z with
    | none => exact absurd e hn
    | some o => exact hk z o hz e
  refine ⟨⟨⟨hB, fun a e => ⟨hh a e, ?_⟩, ?_⟩, h.len, ?_, h.dis⟩,
    ⟨hs, fun z hz => ?_⟩⟩
  · exact hf a (h.hand a e).1.some (h.hand a e).2
  · intro z hz
    obtain ⟨q1, q2, q3⟩ := h.zs z hz
    exact ⟨by rw [keep z q3 q1]; exact q1, hf z q1 q2, q3⟩
  · intro i s e
    obtain ⟨v, e1, q⟩ := h.sl i s e
    refine ⟨v, e1, ?_⟩
    cases s with
    | dat d => exact Is.mono hs q
    | hand => exact q
    | own ds =>
      obtain ⟨a, xs, rfl, q1, q2, q3, q4, q5⟩ := q
      refine ⟨a, xs, rfl, hk a _ q4 q1, hf a ?_ q2, q3, q4, q5.mono hs⟩
      rw [q1]; exact nofun
    | obj R =>
      obtain ⟨a, o, rfl, q1, q2, q3, q4, q5, q6⟩ := q
      refine ⟨a, o, rfl, hk a _ q4 q1, hf a ?_ q2, q3, q4, q6 _ _ hs q5, q6⟩
      rw [q1]; exact nofun
  · obtain ⟨q1, q2, q3⟩ := h.zs z hz
    exact keep z q3 q1
/-- a new object, which is data from now on -/
theorem Ok.new {p : Addr} {o : HO} (h : Ok K l Z m B H σ ρ)
    (hp : H p = none) :
    Ok K l Z m (upd B p o) (upd H p o) σ ρ ∧
      Fr Z B H (upd B p o) (upd H p o) := by
  have hb : B p = none := by
    cases e : B p with
    | none => rfl
    | some x => rw [h.sub p x e] at hp; cases hp
  refine h.step (same_new hb) (fun b x e => ?_) (fun a e => ?_)
    (fun a x _ e => same_new hp a x e) (fun a hn e => ?_)
  · by_cases q : b = p
    · subst q
      rw [upd_same] at e ⊢
      exact e
    · rw [upd_ne q] at e ⊢
      exact h.sub b x e
  · obtain ⟨g, s, c, q, r⟩ := (h.hand a e).1
    exact ⟨g, s, c, same_new hp _ _ q, r⟩
  · have q : a ≠ p := fun z => hn (z ▸ hp)
    rw [upd_ne q]
    exact e
end
def EvC (K : PySem.W.Frag) (l : Option Addr) (te : TE) (ρ : Ro) (m : Nat)
    (Φ : Nat → D → Prop) : Prop :=
  ∀ Z B H σ (Q : VK), Ok K l Z m B H σ ρ →
    (∀ v d m' B2 H2, Ok K l Z m' B2 H2 σ ρ → Fr Z B H B2 H2 →
      Is K B2 v d → Φ m' d → Q v H2) → te σ H Q
def TvC (K : PySem.W.Frag) (l : Option Addr) (tt : TT) (ρ : Ro) (m : Nat)
    (Φ : Nat → Bool → Prop) : Prop :=
  ∀ Z B H σ (Q : Bool → Hp → Prop), Ok K l Z m B H σ ρ →
    (∀ b m' B2 H2, Ok K l Z m' B2 H2 σ ρ → Fr Z B H B2 H2 →
      Φ m' b → Q b H2) → tt σ H Q
def AvC (K : PySem.W.Frag) (l : Option Addr) (ta : TA) (ρ : Ro) (m : Nat)
    (Φ : Nat → List D → Prop) : Prop :=
  ∀ Z B H σ (Q : List V → Hp → Prop), Ok K l Z m B H σ ρ →
    (∀ vs ds m' B2 H2, Ok K l Z m' B2 H2 σ ρ → Fr Z B H B2 H2 →
      IsAll K B2 vs ds → Φ m' ds → Q vs H2) → ta σ H Q
/-- a step on values that are data -/
def VvC (K : PySem.W.Frag) (l : Option Addr) (ρ : Ro)
    (r : List V → Hp → VK → Prop) (ds : List D) (m : Nat)
    (Φ : Nat → D → Prop) : Prop :=
  ∀ Z B H σ vs (Q : VK), Ok K l Z m B H σ ρ → IsAll K B vs ds →
    (∀ v d m' B2 H2, Ok K l Z m' B2 H2 σ ρ → Fr Z B H B2 H2 →
      Is K B2 v d → Φ m' d → Q v H2) → r vs H Q
def SvC (K : PySem.W.Frag) (l : Option Addr) (ts : TS) (ρ : Ro) (m : Nat)
    (Nx : Nat → Ro → Prop) (Rt : Nat → D → Prop) : Prop :=
  ∀ Z B H σ (W : Ends), Ok K l Z m B H σ ρ →
    (∀ σ' ρ' m' B2 H2, Ok K l Z m' B2 H2 σ' ρ' → Fr Z B H B2 H2 →
      Nx m' ρ' → W.nx σ' H2) →
    (∀ v d m' B2 H2, Bs l Z m' B2 H2 → Fr Z B H B2 H2 →
      Is K B2 v d → Rt m' d → W.rt v H2) → ts W σ H
section
variable {K : PySem.W.Frag} {l : Option Addr} {ρ : Ro} {m : Nat}
variable {Φ : Nat → D → Prop} {Θ : Nat → Bool → Prop}
variable {ta tb te : TE} {t u : TT}
theorem e_var {i : Nat} {d : D} (h : ρ[i]? = some (some (.dat d)))
    (q : Φ m d) : EvC K l (tVar i) ρ m Φ := by
  intro Z B H σ Q ok k
  obtain ⟨v, e, z⟩ := ok.sl i _ h
  exact ⟨v, e, k v d m B H ok Fr.refl z q⟩
theorem e_non (q : Φ m .non) : EvC K l (tC .non) ρ m Φ :=
  fun Z B H σ Q ok k => k _ _ m B H ok Fr.refl .non q
theorem e_bl {b : Bool} (q : Φ m (.bl b)) : EvC K l (tC (.bl b)) ρ m Φ :=
  fun Z B H σ Q ok k => k _ _ m B H ok Fr.refl (.bl b) q
theorem e_int {i : Int} (q : Φ m (.int i)) : EvC K l (tC (.int i)) ρ m Φ :=
  fun Z B H σ Q ok k => k _ _ m B H ok Fr.refl (.int i) q
theorem e_str {x : Str} (q : Φ m (.str x)) : EvC K l (tC (.str x)) ρ m Φ :=
  fun Z B H σ Q ok k => k _ _ m B H ok Fr.refl (.str x) q
theorem e_imp {Φ' : Nat → D → Prop} (h : EvC K l te ρ m Φ)
    (q : ∀ n d, Φ n d → Φ' n d) : EvC K l te ρ m Φ' :=
  fun Z B H σ Q ok k => h Z B H σ Q ok fun v d n B2 H2 a b c e =>
    k v d n B2 H2 a b c (q n d e)
theorem e_op {r : R2} (h : EvC K l ta ρ m fun m1 x => EvC K l tb ρ m1
      fun m2 y => VvC K l ρ (fun vs H Q => ∃ x y, vs = [x, y] ∧ r x y H Q)
        [x, y] m2 Φ) : EvC K l (tOp r ta tb) ρ m Φ := by
  intro Z B H σ Q ok k
  refine h Z B H σ _ ok fun v1 d1 m1 B1 H1 o1 f1 i1 g1 => ?_
  refine g1 Z B1 H1 σ _ o1 fun v2 d2 m2 B2 H2 o2 f2 i2 g2 => ?_
  obtain ⟨x, y, e, z⟩ := g2 Z B2 H2 σ [v1, v2] Q o2
    (.cons (i1.mono f2.sub) (.cons i2 .nil)) fun v d m' B3 H3 o3 f3 i3 g3 =>
    k v d m' B3 H3 o3 ((f1.trans f2).trans f3) i3 g3
  cases e
  exact z
theorem e_un {r : V → Hp → VK → Prop} (h : EvC K l ta ρ m fun m1 x =>
      VvC K l ρ (fun vs H Q => ∃ x, vs = [x] ∧ r x H Q) [x] m1 Φ) :
    EvC K l (tUn r ta) ρ m Φ := by
  intro Z B H σ Q ok k
  refine h Z B H σ _ ok fun v1 d1 m1 B1 H1 o1 f1 i1 g1 => ?_
  obtain ⟨x, e, z⟩ := g1 Z B1 H1 σ [v1] Q o1 (.cons i1 .nil)
    fun v d m' B3 H3 o3 f3 i3 g3 =>
    k v d m' B3 H3 o3 (f1.trans f3) i3 g3
  cases e
  exact z
theorem v_I {C : Int → Int → Prop} {g : Int → Int → Int} {i j : Int}
    (hc : C i j) (q : Φ m (.int (g i j))) :
    VvC K l ρ (fun vs H Q => ∃ x y, vs = [x, y] ∧
      rI C (fun i j => .int (g i j)) x y H Q) [.int i, .int j] m Φ := by
  intro Z B H σ vs Q ok is k
  cases is with
  | cons h1 r =>
    cases r with
    | cons h2 r =>
      cases r
      cases h1
      cases h2
      exact ⟨_, _, rfl, i, j, rfl, rfl, hc,
        k _ _ m B H ok Fr.refl (.int _) q⟩
theorem v_I0 {g : Int → Int → Int} {i j : Int} (q : Φ m (.int (g i j))) :
    VvC K l ρ (fun vs H Q => ∃ x y, vs = [x, y] ∧
      rI0 (fun i j => .int (g i j)) x y H Q) [.int i, .int j] m Φ := by
  intro Z B H σ vs Q ok is k
  cases is with
  | cons h1 r =>
    cases r with
    | cons h2 r =>
      cases r
      cases h1
      cases h2
      exact ⟨_, _, rfl, i, j, rfl, rfl, k _ _ m B H ok Fr.refl (.int _) q⟩
theorem v_B0 {g : Int → Int → Bool} {i j : Int} (q : Φ m (.bl (g i j))) :
    VvC K l ρ (fun vs H Q => ∃ x y, vs = [x, y] ∧
      rI0 (fun i j => .bl (g i j)) x y H Q) [.int i, .int j] m Φ := by
  intro Z B H σ vs Q ok is k
  cases is with
  | cons h1 r =>
    cases r with
    | cons h2 r =>
      cases r
      cases h1
      cases h2
      exact ⟨_, _, rfl, i, j, rfl, rfl, k _ _ m B H ok Fr.refl (.bl _) q⟩
/-- == of two texts, two truths -/
theorem v_eqS {a b : Str} (q : Φ m (.bl (decide (a = b)))) :
    VvC K l ρ (fun vs H Q => ∃ x y, vs = [x, y] ∧ rEq x y H Q)
      [.str a, .str b] m Φ := by
  intro Z B H σ vs Q ok is k
  cases is with
  | cons h1 r =>
    cases r with
    | cons h2 r =>
      cases r
      cases h1
      cases h2
      refine ⟨_, _, rfl, rfl, k _ _ m B H ok Fr.refl (.bl _) ?_⟩
      have e : decide (V.str a = V.str b) = decide (a = b) := by
        by_cases h : a = b
        · subst h; simp
        · rw [decide_eq_false h,
            decide_eq_false (fun z => h (V.str.inj z))]
      rw [e]
      exact q
theorem v_neS {a b : Str} (q : Φ m (.bl (!decide (a = b)))) :
    VvC K l ρ (fun vs H Q => ∃ x y, vs = [x, y] ∧ rNe x y H Q)
      [.str a, .str b] m Φ := by
  intro Z B H σ vs Q ok is k
  cases is with
  | cons h1 r =>
    cases r with
    | cons h2 r =>
      cases r
      cases h1
      cases h2
      refine ⟨_, _, rfl, rfl, k _ _ m B H ok Fr.refl (.bl _) ?_⟩
      have e : decide (V.str a = V.str b) = decide (a = b) := by
        by_cases h : a = b
        · subst h; simp
        · rw [decide_eq_false h,
            decide_eq_false (fun z => h (V.str.inj z))]
      rw [e]
      exact q
theorem t_test (h : EvC K l te ρ m fun m1 d => ∃ b, d = .bl b ∧ Θ m1 b) :
    TvC K l (tTest te) ρ m Θ := by
  intro Z B H σ Q ok k
  refine h Z B H σ _ ok fun v d m1 B1 H1 o1 f1 i1 g1 => ?_
  obtain ⟨b, rfl, g⟩ := g1
  cases i1
  exact ⟨b, rfl, k b m1 B1 H1 o1 f1 g⟩
theorem t_B (h : EvC K l te ρ m fun m1 d => ∃ b, d = .bl b ∧ Θ m1 b) :
    TvC K l (tB te) ρ m Θ := by
  intro Z B H σ Q ok k
  refine h Z B H σ _ ok fun v d m1 B1 H1 o1 f1 i1 g1 => ?_
  obtain ⟨b, rfl, g⟩ := g1
  cases i1
  exact ⟨b, rfl, k b m1 B1 H1 o1 f1 g⟩
theorem t_and (h : TvC K l t ρ m fun m1 b =>
      if b = true then TvC K l u ρ m1 Θ else Θ m1 false) :
    TvC K l (tAnd t u) ρ m Θ := by
  intro Z B H σ Q ok k
  refine h Z B H σ _ ok fun b m1 B1 H1 o1 f1 g1 => ?_
  cases b with
  | true =>
    exact g1 Z B1 H1 σ Q o1 fun b m2 B2 H2 o2 f2 g2 =>
      k b m2 B2 H2 o2 (f1.trans f2) g2
  | false =>
    exact k false m1 B1 H1 o1 f1 g1
theorem t_or (h : TvC K l t ρ m fun m1 b =>
      if b = true then Θ m1 true else TvC K l u ρ m1 Θ) :
    TvC K l (tOr t u) ρ m Θ := by
  intro Z B H σ Q ok k
  refine h Z B H σ _ ok fun b m1 B1 H1 o1 f1 g1 => ?_
  cases b with
  | false =>
    exact g1 Z B1 H1 σ Q o1 fun b m2 B2 H2 o2 f2 g2 =>
      k b m2 B2 H2 o2 (f1.trans f2) g2
  | true =>
    exact k true m1 B1 H1 o1 f1 g1
theorem t_not (h : TvC K l t ρ m fun m1 b => Θ m1 (!b)) :
    TvC K l (tNot t) ρ m Θ :=
  fun Z B H σ Q ok k => h Z B H σ _ ok fun b m1 B1 H1 o1 f1 g1 =>
    k _ m1 B1 H1 o1 f1 g1
theorem e_andV (h : EvC K l ta ρ m fun m1 d => ∃ b, d = .bl b ∧
      if b = true then EvC K l tb ρ m1 Φ else Φ m1 (.bl false)) :
    EvC K l (tAndV ta tb) ρ m Φ := by
  intro Z B H σ Q ok k
  refine h Z B H σ _ ok fun v d m1 B1 H1 o1 f1 i1 g1 => ?_
  obtain ⟨b, rfl, g⟩ := g1
  cases i1
  refine ⟨b, rfl, ?_⟩
  cases b with
  | true =>
    exact g Z B1 H1 σ Q o1 fun v d m2 B2 H2 o2 f2 i2 g2 =>
      k v d m2 B2 H2 o2 (f1.trans f2) i2 g2
  | false =>
    exact k _ _ m1 B1 H1 o1 f1 (.bl false) g
theorem e_orV (h : EvC K l ta ρ m fun m1 d => ∃ b, d = .bl b ∧
      if b = true then Φ m1 (.bl true) else EvC K l tb ρ m1 Φ) :
    EvC K l (tOrV ta tb) ρ m Φ := by
  intro Z B H σ Q ok k
  refine h Z B H σ _ ok fun v d m1 B1 H1 o1 f1 i1 g1 => ?_
  obtain ⟨b, rfl, g⟩ := g1
  cases i1
  refine ⟨b, rfl, ?_⟩
  cases b with
  | false =>
    exact g Z B1 H1 σ Q o1 fun v d m2 B2 H2 o2 f2 i2 g2 =>
      k v d m2 B2 H2 o2 (f1.trans f2) i2 g2
  | true =>
    exact k _ _ m1 B1 H1 o1 f1 (.bl true) g
theorem e_notV (h : EvC K l ta ρ m fun m1 d => ∃ b, d = .bl b ∧
      Φ m1 (.bl (!b))) : EvC K l (tNotV ta) ρ m Φ := by
  intro Z B H σ Q ok k
  refine h Z B H σ _ ok fun v d m1 B1 H1 o1 f1 i1 g1 => ?_
  obtain ⟨b, rfl, g⟩ := g1
  cases i1
  exact ⟨b, rfl, k _ _ m1 B1 H1 o1 f1 (.bl _) g⟩
theorem e_if (h : TvC K l t ρ m fun m1 b =>
      if b = true then EvC K l ta ρ m1 Φ else EvC K l tb ρ m1 Φ) :
    EvC K l (tIf t ta tb) ρ m Φ := by
  intro Z B H σ Q ok k
  refine h Z B H σ _ ok fun b m1 B1 H1 o1 f1 g1 => ?_
  cases b with
  | true =>
    exact g1 Z B1 H1 σ Q o1 fun v d m2 B2 H2 o2 f2 i2 g2 =>
      k v d m2 B2 H2 o2 (f1.trans f2) i2 g2
  | false =>
    exact g1 Z B1 H1 σ Q o1 fun v d m2 B2 H2 o2 f2 i2 g2 =>
      k v d m2 B2 H2 o2 (f1.trans f2) i2 g2
/-- a <= b <= c of whole numbers -/
theorem e_chain {g h : Int → Int → Bool} {tc : TE}
    (q : EvC K l ta ρ m fun m1 x => EvC K l tb ρ m1 fun m2 y =>
      ∃ i j, x = .int i ∧ y = .int j ∧
      if g i j = true then EvC K l tc ρ m2 fun m3 z =>
        ∃ n, z = .int n ∧ Φ m3 (.bl (h j n))
      else Φ m2 (.bl false)) :
    EvC K l (tChain (rI0 fun i j => .bl (g i j))
      (rI0 fun i j => .bl (h i j)) ta tb tc) ρ m Φ := by
  intro Z B H σ Q ok k
  refine q Z B H σ _ ok fun v1 d1 m1 B1 H1 o1 f1 i1 g1 => ?_
  refine g1 Z B1 H1 σ _ o1 fun v2 d2 m2 B2 H2 o2 f2 i2 g2 => ?_
  obtain ⟨i, j, rfl, rfl, r⟩ := g2
  cases i1
  cases i2
  refine ⟨i, j, rfl, rfl, _, rfl, ?_⟩
  cases e : g i j with
  | false =>
    rw [e] at r
    exact k _ _ m2 B2 H2 o2 (f1.trans f2) (.bl false) r
  | true =>
    rw [e] at r
    refine r Z B2 H2 σ _ o2 fun v3 d3 m3 B3 H3 o3 f3 i3 g3 => ?_
    obtain ⟨n, rfl, z⟩ := g3
    cases i3
    exact ⟨j, n, rfl, rfl,
      k _ _ m3 B3 H3 o3 ((f1.trans f2).trans f3) (.bl _) z⟩
variable {Ψ : Nat → List D → Prop} {tr tA : TA}
theorem a_nil (q : Ψ m []) : AvC K l tNil ρ m Ψ :=
  fun Z B H σ Q ok k => k [] [] m B H ok Fr.refl .nil q
theorem a_cons (h : EvC K l ta ρ m fun m1 x => AvC K l tr ρ m1 fun m2 xs =>
      Ψ m2 (x :: xs)) : AvC K l (tCons ta tr) ρ m Ψ := by
  intro Z B H σ Q ok k
  refine h Z B H σ _ ok fun v d m1 B1 H1 o1 f1 i1 g1 => ?_
  refine g1 Z B1 H1 σ _ o1 fun vs ds m2 B2 H2 o2 f2 i2 g2 => ?_
  exact k _ _ m2 B2 H2 o2 (f1.trans f2) (.cons (i1.mono f2.sub) i2) g2
theorem sqF {B : Hp} {a : Addr} {xs : List V} {o : Obj}
    (h : B a = some (.frz o (.tup xs))) : SqT K B a xs := .inl (.inr ⟨o, h⟩)
theorem Is.newT {B : Hp} {a : Addr} {xs : List V} {ds : List D} {o : Obj}
    (h : B a = some (.frz o (.tup xs))) (hd : o.dict = none)
    (r : IsAll K B xs ds) : Is K B (.ref a) (.tup ds) :=
  .tup (sqF h) r ⟨o, xs, h, hd⟩
theorem e_tup (h : AvC K l tA ρ m fun m1 ds => ds.length ≤ 100000 ∧
      Φ m1 (.tup ds)) : EvC K l (tTupC tA) ρ m Φ := by
  intro Z B H σ Q ok k
  refine h Z B H σ _ ok fun vs ds m1 B1 H1 o1 f1 i1 g1 => ?_
  refine ⟨?_, fun p ob hp hd _ => ?_⟩
  · rw [i1.length]
    exact Nat.le_trans g1.1 (by decide)
  · obtain ⟨o2, f2⟩ := o1.new (o := .frz ob (.tup vs)) hp
    exact k _ _ m1 _ _ o2 (f1.trans f2)
      (.newT upd_same hd (i1.mono f2.sub)) g1.2
theorem e_lst (h : AvC K l tA ρ m fun m1 ds => ds.length ≤ 100000 ∧
      Φ m1 (.lst ds)) : EvC K l (tLst tA) ρ m Φ := by
  intro Z B H σ Q ok k
  refine h Z B H σ _ ok fun vs ds m1 B1 H1 o1 f1 i1 g1 => ?_
  refine ⟨?_, fun p hp => ?_⟩
  · rw [i1.length]
    exact Nat.le_trans g1.1 (by decide)
  · obtain ⟨o2, f2⟩ := o1.new (o := .lst vs) hp
    exact k _ _ m1 _ _ o2 (f1.trans f2)
      (.lst upd_same (i1.mono f2.sub)) g1.2
theorem e_cb {r : List V → Hp → VK → Prop}
    (h : AvC K l tA ρ m fun m1 ds => VvC K l ρ r ds m1 Φ) :
    EvC K l (tCB r tA) ρ m Φ := by
  intro Z B H σ Q ok k
  refine h Z B H σ _ ok fun vs ds m1 B1 H1 o1 f1 i1 g1 => ?_
  exact g1 Z B1 H1 σ vs Q o1 i1 fun v d m2 B2 H2 o2 f2 i2 g2 =>
    k v d m2 B2 H2 o2 (f1.trans f2) i2 g2
variable {Nx : Nat → Ro → Prop} {Rt : Nat → D → Prop} {ts tu : TS}
theorem s_next (q : Nx m ρ) : SvC K l tNext ρ m Nx Rt :=
  fun Z B H σ W ok k _ => k σ ρ m B H ok Fr.refl q
theorem s_seq (h : SvC K l ts ρ m (fun m1 ρ1 => SvC K l tu ρ1 m1 Nx Rt)
      Rt) : SvC K l (tSeq ts tu) ρ m Nx Rt := by
  intro Z B H σ W ok k j
  refine h Z B H σ _ ok (fun σ1 ρ1 m1 B1 H1 o1 f1 g1 => ?_) ?_
  · exact g1 Z B1 H1 σ1 W o1
      (fun σ2 ρ2 m2 B2 H2 o2 f2 g2 => k σ2 ρ2 m2 B2 H2 o2 (f1.trans f2) g2)
      fun v d m2 B2 H2 o2 f2 i2 g2 => j v d m2 B2 H2 o2 (f1.trans f2) i2 g2
  · exact fun v d m1 B1 H1 o1 f1 i1 g1 => j v d m1 B1 H1 o1 f1 i1 g1
theorem s_ret (h : EvC K l te ρ m Rt) : SvC K l (tRet te) ρ m Nx Rt :=
  fun Z B H σ W ok _ j => h Z B H σ _ ok fun v d m1 B1 H1 o1 f1 i1 g1 =>
    j v d m1 B1 H1 o1.toBs f1 i1 g1
theorem s_if (h : TvC K l t ρ m fun m1 b =>
      if b = true then SvC K l ts ρ m1 Nx Rt else SvC K l tu ρ m1 Nx Rt) :
    SvC K l (tIfS t ts tu) ρ m Nx Rt := by
  intro Z B H σ W ok k j
  refine h Z B H σ _ ok fun b m1 B1 H1 o1 f1 g1 => ?_
  cases b with
  | true =>
    exact g1 Z B1 H1 σ W o1
      (fun σ2 ρ2 m2 B2 H2 o2 f2 g2 => k σ2 ρ2 m2 B2 H2 o2 (f1.trans f2) g2)
      fun v d m2 B2 H2 o2 f2 i2 g2 => j v d m2 B2 H2 o2 (f1.trans f2) i2 g2
  | false =>
    exact g1 Z B1 H1 σ W o1
      (fun σ2 ρ2 m2 B2 H2 o2 f2 g2 => k σ2 ρ2 m2 B2 H2 o2 (f1.trans f2) g2)
      fun v d m2 B2 H2 o2 f2 i2 g2 => j v d m2 B2 H2 o2 (f1.trans f2) i2 g2
/-- a slot set to data -/
theorem Ok.set {Z : Addr → Prop} {B H : Hp} {σ : L2.St} {v : V} {d : D}
    {i : Nat} (h : Ok K l Z m B H σ ρ) (q : Is K B v d) :
    Ok K l Z m B H (σ.set i (some v)) (ρ.set i (some (.dat d))) := by
  refine { h.toBs with len := ?_, sl := ?_, dis := ?_ }
  · rw [List.length_set, List.length_set]
    exact h.len
  · intro j s e
    by_cases hj : i = j
    · subst hj
      have hi : i < ρ.length := by
        obtain ⟨hi, _⟩ := List.getElem?_eq_some_iff.mp e
        simpa using hi
      rw [List.getElem?_set_self hi] at e
      cases e
      exact ⟨v, List.getElem?_set_self (by rw [h.len]; exact hi), q⟩
    · rw [List.getElem?_set_ne hj] at e ⊢
      exact h.sl j s e
  · intro j k s t a hjk p1 p2 e1 e2
    have n1 : i ≠ j := fun z => by
      subst z
      rcases Nat.lt_or_ge i ρ.length with hi | hi
      · rw [List.getElem?_set_self hi] at e1
        cases e1
        cases p1
      · rw [List.getElem?_eq_none (by rw [List.length_set]; exact hi)] at e1
        cases e1
    have n2 : i ≠ k := fun z => by
      subst z
      rcases Nat.lt_or_ge i ρ.length with hi | hi
      · rw [List.getElem?_set_self hi] at e2
        cases e2
        cases p2
      · rw [List.getElem?_eq_none (by rw [List.length_set]; exact hi)] at e2
        cases e2
    rw [List.getElem?_set_ne n1] at e1 ⊢
    rw [List.getElem?_set_ne n2] at e2 ⊢
    exact h.dis j k s t a hjk p1 p2 e1 e2
theorem s_asg {i : Nat} (h : EvC K l te ρ m fun m1 d =>
      Nx m1 (ρ.set i (some (.dat d)))) :
    SvC K l (tAsg te (gName i)) ρ m Nx Rt :=
  fun Z B H σ W ok k _ => h Z B H σ _ ok fun v d m1 B1 H1 o1 f1 i1 g1 =>
    k _ _ m1 B1 H1 (o1.set i1) f1 g1
end
end Wt

namespace Wt
open PySem PySem.Spec PyProof.Rows L2
section
variable {K : PySem.W.Frag} {l : Option Addr} {ρ : Ro} {m : Nat}
variable {Φ : Nat → D → Prop} {Θ : Nat → Bool → Prop}
variable {Nx : Nat → Ro → Prop} {Rt : Nat → D → Prop} {ts tb : TS}
variable {ta te tl : TE} {t u : TT} {tA : TA}
variable {Z : Addr → Prop} {B H : Hp} {σ : L2.St}
theorem Ok.same0 (h : Ok K l Z m B H σ ρ) {p : Addr} (hp : H p = none) :
    B p = none := by
  cases e : B p with
  | none => rfl
  | some x => rw [h.sub p x e] at hp; cases hp
/-- a new object that is not data: kept aside -/
theorem Ok.aside {p : Addr} {o : HO} (h : Ok K l Z m B H σ ρ)
    (hp : H p = none) :
    Ok K l (fun a => Z a ∨ a = p) m B (upd H p o) σ ρ := by
  have up : ∀ a x, H a = some x → upd H p o a = some x := same_new hp
  refine ⟨⟨fun b x e => up b x (h.sub b x e), fun a e => ⟨?_, ?_⟩, ?_⟩,
    h.len, ?_, h.dis⟩
  · obtain ⟨g, s, c, q, r⟩ := (h.hand a e).1
    exact ⟨g, s, c, up _ _ q, r⟩
  · exact (h.hand a e).2
  · intro z hz
    rcases hz with hz | rfl
    · obtain ⟨q1, q2, q3⟩ := h.zs z hz
      refine ⟨?_, q2, q3⟩
      cases e : H z with
      | none => exact absurd e q1
      | some x => rw [up z x e]; exact nofun
    · refine ⟨by rw [upd_same]; exact nofun, h.same0 hp, fun e => ?_⟩
      exact (h.hand z e).1.some hp
  · intro i s e
    obtain ⟨v, e1, q⟩ := h.sl i s e
    refine ⟨v, e1, ?_⟩
    cases s with
    | dat d => exact q
    | hand => exact q
    | own ds =>
      obtain ⟨a, xs, rfl, q1, q2, q3, q4, q5⟩ := q
      refine ⟨a, xs, rfl, up _ _ q1, q2, fun z => ?_, q4, q5⟩
      rcases z with z | rfl
      · exact q3 z
      · rw [hp] at q1; cases q1
    | obj R =>
      obtain ⟨a, o', rfl, q1, q2, q3, q4, q5⟩ := q
      refine ⟨a, o', rfl, up _ _ q1, q2, fun z => ?_, q4, q5⟩
      rcases z with z | rfl
      · exact q3 z
      · rw [hp] at q1; cases q1
/-- what is kept aside may be written -/
theorem Ok.write {p : Addr} {o : HO} (h : Ok K l Z m B H σ ρ) (hz : Z p) :
    Ok K l Z m B (upd H p o) σ ρ := by
  obtain ⟨z1, z2, z3⟩ := h.zs p hz
  refine ⟨⟨fun b x e => ?_, fun a e => ⟨?_, (h.hand a e).2⟩, ?_⟩,
    h.len, ?_, h.dis⟩
  · have q : b ≠ p := fun z => by subst z; rw [z2] at e; cases e
    rw [upd_ne q]
    exact h.sub b x e
  · obtain ⟨g, s, c, q, r⟩ := (h.hand a e).1
    have n : a ≠ p := fun z => z3 (z ▸ e)
    exact ⟨g, s, c, by rw [upd_ne n]; exact q, r⟩
  · intro z hz'
    obtain ⟨q1, q2, q3⟩ := h.zs z hz'
    refine ⟨?_, q2, q3⟩
    by_cases n : z = p
    · subst n; rw [upd_same]; exact nofun
    · rw [upd_ne n]; exact q1
  · intro i s e
    obtain ⟨v, e1, q⟩ := h.sl i s e
    refine ⟨v, e1, ?_⟩
    cases s with
    | dat d => exact q
    | hand => exact q
    | own ds =>
      obtain ⟨a, xs, rfl, q1, q2, q3, q4, q5⟩ := q
      have n : a ≠ p := fun z => q3 (z ▸ hz)
      exact ⟨a, xs, rfl, by rw [upd_ne n]; exact q1, q2, q3, q4, q5⟩
    | obj R =>
      obtain ⟨a, o', rfl, q1, q2, q3, q4, q5⟩ := q
      have n : a ≠ p := fun z => q3 (z ▸ hz)
      exact ⟨a, o', rfl, by rw [upd_ne n]; exact q1, q2, q3, q4, q5⟩
/-- what was kept aside becomes data -/
theorem Ok.thaw {p : Addr} {o : HO}
    (h : Ok K l (fun a => Z a ∨ a = p) m B H σ ρ) (hp : H p = some o)
    (hz : ¬ Z p) : Ok K l Z m (upd B p o) H σ ρ := by
  obtain ⟨z1, z2, z3⟩ := h.zs p (.inr rfl)
  have sm : Same B (upd B p o) := same_new z2
  refine ⟨⟨fun b x e => ?_, fun a e => ⟨(h.hand a e).1, ?_⟩, ?_⟩,
    h.len, ?_, h.dis⟩
  · by_cases q : b = p
    · subst q; rw [upd_same] at e; cases e; exact hp
    · rw [upd_ne q] at e; exact h.sub b x e
  · rw [upd_ne (fun (z : a = p) => z3 (z ▸ e))]
    exact (h.hand a e).2
  · intro z hz'
    obtain ⟨q1, q2, q3⟩ := h.zs z (.inl hz')
    refine ⟨q1, ?_, q3⟩
    rw [upd_ne (fun (n : z = p) => hz (n ▸ hz'))]
    exact q2
  · intro i s e
    obtain ⟨v, e1, q⟩ := h.sl i s e
    refine ⟨v, e1, ?_⟩
    cases s with
    | dat d => exact Is.mono sm q
    | hand => exact q
    | own ds =>
      obtain ⟨a, xs, rfl, q1, q2, q3, q4, q5⟩ := q
      have n : a ≠ p := fun z => q3 (.inr z)
      exact ⟨a, xs, rfl, q1, by rw [upd_ne n]; exact q2,
        fun z => q3 (.inl z), q4, q5.mono sm⟩
    | obj R =>
      obtain ⟨a, o', rfl, q1, q2, q3, q4, q5, q6⟩ := q
      have n : a ≠ p := fun z => q3 (.inr z)
      exact ⟨a, o', rfl, q1, by rw [upd_ne n]; exact q2,
        fun z => q3 (.inl z), q4, q6 _ _ sm q5, q6⟩
/-- a slot that is told nothing of may hold anything -/
theorem Ok.unset {j : Nat} {v : Option V} {s : Option Sl}
    (h : Ok K l Z m B H (σ.set j v) (ρ.set j s)) (e : ρ[j]? = some none) :
    Ok K l Z m B H σ ρ := by
  have ne : ∀ (i : Nat) x, ρ[i]? = some (some x) → j ≠ i := fun i x q z => by
    subst z; rw [e] at q; cases q
  refine ⟨h.toBs, by simpa using h.len, fun i s q => ?_,
    fun i k s t a n p1 p2 q1 q2 => ?_⟩
  · obtain ⟨w, e1, z⟩ := h.sl i s (by rw [List.getElem?_set_ne (ne i s q)]; exact q)
    rw [List.getElem?_set_ne (ne i s q)] at e1
    exact ⟨w, e1, z⟩
  · have z := h.dis i k s t a n p1 p2
      (by rw [List.getElem?_set_ne (ne i _ q1)]; exact q1)
      (by rw [List.getElem?_set_ne (ne k _ q2)]; exact q2)
    rw [List.getElem?_set_ne (ne i _ q1), List.getElem?_set_ne (ne k _ q2)] at z
    exact z
theorem Fr.weak {Z' : Addr → Prop} {B H B2 H2 : Hp} (f : Fr Z' B H B2 H2)
    (h : ∀ z, Z z → Z' z) : Fr Z B H B2 H2 :=
  ⟨f.sub, fun z q => f.kept z (h z q)⟩
/-- between two turns: the list at A is what was made -/
def LcW (K : PySem.W.Frag) (l : Option Addr) (Z : Addr → Prop) (ρ : Ro)
    (σ : L2.St) (B H : Hp) (A : Addr) (I : Nat → Nat → List D → Prop)
    (i : Nat) (H' : Hp) : Prop :=
  ∃ n acc xs B', Ok K l (fun a => Z a ∨ a = A) n B' H' σ ρ ∧
    Fr Z B H B' H' ∧ H' A = some (.lst xs) ∧ IsAll K B' xs acc ∧
    I i n acc ∧ acc.length = i
theorem lcw_start {A : Addr} {I : Nat → Nat → List D → Prop}
    (ok : Ok K l Z m B H σ ρ) (hA : H A = none) (h0 : I 0 m []) :
    LcW K l Z ρ σ B H A I 0 (upd H A (.lst [])) := by
  refine ⟨m, [], [], B, ok.aside hA, ⟨Same.refl B, fun z hz => ?_⟩,
    upd_same, .nil, h0, rfl⟩
  exact upd_ne fun e => (ok.zs z hz).1 (e ▸ hA)
theorem lcw_turn {A : Addr} {I : Nat → Nat → List D → Prop} {i j : Nat}
    {x : V} {H' : Hp} {P : D → Prop} (hz : ¬ Z A) (hj : ρ[j]? = some none)
    (w : LcW K l Z ρ σ B H A I i H')
    (hx : ∀ B', Same B B' → ∃ d, Is K B' x d ∧ P d) (hi : i < 100000)
    (he : ∀ d n acc, P d → I i n acc → acc.length = i →
      EvC K l te (ρ.set j (some (.dat d))) n fun n2 y =>
        I (i + 1) n2 (acc ++ [y])) :
    gName j x (wipe σ [j]) H' fun σ2 H2 => wipe σ2 [j] = wipe σ [j] ∧
      tYes σ2 H2 fun b H3 => if b = true then te σ2 H3 fun y H4 =>
        ∃ acc, H4 A = some (.lst acc) ∧ acc.length < sizeLine ∧
          LcW K l Z ρ σ B H A I (i + 1) (upd H4 A (.lst (acc ++ [y])))
      else LcW K l Z ρ σ B H A I (i + 1) H3 := by
  obtain ⟨n, acc, xs, B', ok, fr, hA, is, hI, hl⟩ := w
  obtain ⟨d, hd, hP⟩ := hx B' fr.sub
  have e1 : (wipe σ [j]).set j (some x) = σ.set j (some x) := by
    show (σ.set j none).set j (some x) = _
    rw [List.set_set]
  unfold gName tYes
  dsimp only
  rw [e1, if_pos rfl]
  refine ⟨?_, ?_⟩
  · show (σ.set j (some x)).set j none = σ.set j none
    rw [List.set_set]
  · refine he d n acc hP hI hl _ B' H' _ _ (ok.set hd) fun v y n2 B2 H2 o2 f2 i2 g2 => ?_
    have hA2 : H2 A = some (.lst xs) := (f2.kept A (.inr rfl)).trans hA
    refine ⟨xs, hA2, ?_, n2, acc ++ [y], xs ++ [v], B2,
      (o2.unset hj).write (.inr rfl), ?_, upd_same,
      (is.mono f2.sub).append (.cons i2 .nil), g2, by simp [hl]⟩
    · rw [is.length, hl]
      exact Nat.lt_of_lt_of_le hi (by decide)
    · refine ⟨fr.sub.trans f2.sub, fun z hz' => ?_⟩
      rw [upd_ne (fun (e : z = A) => hz (e ▸ hz'))]
      exact (f2.kept z (.inl hz')).trans (fr.kept z hz')
theorem lcw_end {A : Addr} {I : Nat → Nat → List D → Prop} {i : Nat}
    {H' : Hp} {Q : VK} (hz : ¬ Z A) (w : LcW K l Z ρ σ B H A I i H')
    (q : ∀ n acc, acc.length = i → I i n acc → Φ n (.lst acc))
    (k : ∀ v d m' B2 H2, Ok K l Z m' B2 H2 σ ρ → Fr Z B H B2 H2 →
      Is K B2 v d → Φ m' d → Q v H2) : Q (.ref A) H' := by
  obtain ⟨n, acc, xs, B', ok, fr, hA, is, hI, hl⟩ := w
  have z2 := (ok.zs A (.inr rfl)).2.1
  exact k _ _ n _ _ (ok.thaw hA hz) ⟨fr.sub.trans (same_new z2), fr.kept⟩
    (.lst upd_same (is.mono (same_new z2))) (q n acc hl hI)
theorem e_lcT {j : Nat} (hj : ρ[j]? = some none)
    (h : EvC K l tl ρ m fun m1 x => ∃ ds, x = .tup ds ∧ ds.length ≤ 50000 ∧
      ∃ I : Nat → Nat → List D → Prop, I 0 m1 [] ∧
      (∀ i n acc d, ds[i]? = some d → I i n acc → acc.length = i →
        EvC K l te (ρ.set j (some (.dat d))) n fun n2 y =>
          I (i + 1) n2 (acc ++ [y])) ∧
      ∀ n acc, acc.length = ds.length → I ds.length n acc →
        Φ n (.lst acc)) :
    EvC K l (tLc (iTup K tl) (gName j) tYes te [j]) ρ m Φ := by
  intro Z B H σ Q ok k
  refine h Z B H σ _ ok fun v x m1 B1 H1 o1 f1 i1 g1 => ?_
  obtain ⟨ds, rfl, hl, I, h0, hs, hd⟩ := g1
  cases i1 with
  | @tup a xs ds hT is =>
    refine ⟨a, rfl, ⟨xs, sameT o1.sub hT⟩, fun A hA => ?_⟩
    have hz : ¬ Z A := fun z => (o1.zs A z).1 hA
    refine lc_tup (xs := xs) (LcW K l Z ρ σ B1 H1 A I)
      (lcw_start o1 hA h0) (fun i H' _ w => ?_) (fun i x H' e w => ?_)
      fun H' w => ?_
    · obtain ⟨n, acc, ys, B', ok', fr', _⟩ := w
      exact sameT ok'.sub (sameT fr'.sub hT)
    · have hi : i < xs.length := (List.getElem?_eq_some_iff.mp e).1
      refine lcw_turn (P := fun d => ds[i]? = some d) hz hj w
        (fun B' sb => ?_) (by rw [is.length] at hi; omega)
        fun d n acc => hs i n acc d
      obtain ⟨d, e2, q⟩ := (is.mono sb).get e
      exact ⟨d, q, e2⟩
    · rw [is.length] at w
      exact lcw_end hz w hd fun v d m' B2 H2 o2 f2 i2 g2 =>
        k v d m' B2 H2 o2 (f1.trans f2) i2 g2
theorem e_lcL {j : Nat} (hj : ρ[j]? = some none)
    (h : EvC K l tl ρ m fun m1 x => ∃ ds, x = .lst ds ∧ ds.length ≤ 50000 ∧
      ∃ I : Nat → Nat → List D → Prop, I 0 m1 [] ∧
      (∀ i n acc d, ds[i]? = some d → I i n acc → acc.length = i →
        EvC K l te (ρ.set j (some (.dat d))) n fun n2 y =>
          I (i + 1) n2 (acc ++ [y])) ∧
      ∀ n acc, acc.length = ds.length → I ds.length n acc →
        Φ n (.lst acc)) :
    EvC K l (tLc (iList K tl) (gName j) tYes te [j]) ρ m Φ := by
  intro Z B H σ Q ok k
  refine h Z B H σ _ ok fun v x m1 B1 H1 o1 f1 i1 g1 => ?_
  obtain ⟨ds, rfl, hl, I, h0, hs, hd⟩ := g1
  cases i1 with
  | @lst a xs ds hT is =>
    refine ⟨a, rfl, ⟨xs, SqL.of (o1.sub _ _ hT)⟩, fun A hA => ?_⟩
    have hz : ¬ Z A := fun z => (o1.zs A z).1 hA
    refine lc_list (xs := xs) (LcW K l Z ρ σ B1 H1 A I)
      (lcw_start o1 hA h0) (fun i H' _ w => ?_) (fun i x H' e w => ?_)
      fun H' w => ?_
    · obtain ⟨n, acc, ys, B', ok', fr', _⟩ := w
      exact SqL.of (ok'.sub _ _ (fr'.sub _ _ hT))
    · have hi : i < xs.length := (List.getElem?_eq_some_iff.mp e).1
      refine lcw_turn (P := fun d => ds[i]? = some d) hz hj w
        (fun B' sb => ?_) (by rw [is.length] at hi; omega)
        fun d n acc => hs i n acc d
      obtain ⟨d, e2, q⟩ := (is.mono sb).get e
      exact ⟨d, q, e2⟩
    · rw [is.length] at w
      exact lcw_end hz w hd fun v d m' B2 H2 o2 f2 i2 g2 =>
        k v d m' B2 H2 o2 (f1.trans f2) i2 g2
theorem e_lcR {j : Nat} (hj : ρ[j]? = some none)
    (h : AvC K l tA ρ m fun m1 x => ∃ c : Int, x = [.int c] ∧ c ≤ 50000 ∧
      -50000 ≤ c ∧
      ∃ I : Nat → Nat → List D → Prop, I 0 m1 [] ∧
      (∀ i n acc, i < c.toNat → I i n acc → acc.length = i →
        EvC K l te (ρ.set j (some (.dat (.int i)))) n fun n2 y =>
          I (i + 1) n2 (acc ++ [y])) ∧
      ∀ n acc, acc.length = c.toNat → I c.toNat n acc → Φ n (.lst acc)) :
    EvC K l (tLc (iRng1 tA) (gName j) tYes te [j]) ρ m Φ := by
  intro Z B H σ Q ok k
  refine h Z B H σ _ ok fun vs x m1 B1 H1 o1 f1 i1 g1 => ?_
  obtain ⟨c, rfl, hc, hc2, I, h0, hs, hd⟩ := g1
  cases i1 with
  | cons i1 r =>
    cases r
    cases i1
    refine ⟨c, rfl, by omega, by omega, fun A hA => ?_⟩
    have hz : ¬ Z A := fun z => (o1.zs A z).1 hA
    refine lc_range (lo := 0) (n := c.toNat) (LcW K l Z ρ σ B1 H1 A I)
      (lcw_start o1 hA h0) (fun i H' hi w => ?_) fun H' w => ?_
    · have e0 : (0 : Int) + (i : Int) = (i : Int) := Int.zero_add _
      rw [e0]
      exact lcw_turn (P := fun d => d = .int i) hz hj w
        (fun B' sb => ⟨_, .int _, rfl⟩) (by omega)
        fun d n acc e => by subst e; exact hs i n acc hi
    · exact lcw_end hz w hd fun v d m' B2 H2 o2 f2 i2 g2 =>
        k v d m' B2 H2 o2 (f1.trans f2) i2 g2
theorem s_forT {j : Nat}
    (h : EvC K l tl ρ m fun m1 x => ∃ ds, x = .tup ds ∧
      ∃ I : Nat → Nat → Ro → Prop, I 0 m1 ρ ∧
      (∀ i n ρ' d, ds[i]? = some d → I i n ρ' →
        SvC K l tb (ρ'.set j (some (.dat d))) n (fun n2 ρ2 =>
          I (i + 1) n2 ρ2) Rt) ∧
      ∀ n ρ', I ds.length n ρ' → Nx n ρ') :
    SvC K l (tFor (iTup K tl) (gName j) tb) ρ m Nx Rt := by
  intro Z B H σ W ok k jr
  refine h Z B H σ _ ok fun v x m1 B1 H1 o1 f1 i1 g1 => ?_
  obtain ⟨ds, rfl, I, h0, hs, hd⟩ := g1
  cases i1 with
  | @tup a xs ds hT is =>
    refine ⟨a, rfl, ⟨xs, sameT o1.sub hT⟩, ?_⟩
    refine for_tup (xs := xs) (fun i σ' H' => ∃ n ρ' B',
      Ok K l Z n B' H' σ' ρ' ∧ Fr Z B1 H1 B' H' ∧ I i n ρ')
      ⟨m1, ρ, B1, o1, Fr.refl, h0⟩ (fun i σ' H' _ w => ?_)
      (fun i x σ' H' e w => ?_) fun σ' H' w => ?_
    · obtain ⟨n, ρ', B', ok', fr', _⟩ := w
      exact sameT ok'.sub (sameT fr'.sub hT)
    · obtain ⟨n, ρ', B', ok', fr', hI⟩ := w
      obtain ⟨d, e2, q⟩ := (is.mono fr'.sub).get e
      refine hs i n ρ' d e2 hI Z B' H' _ _ (ok'.set q)
        (fun σ2 ρ2 m2 B2 H2 o2 f2 g2 => ⟨m2, ρ2, B2, o2, fr'.trans f2, g2⟩)
        fun v d m2 B2 H2 o2 f2 i2 g2 => ?_
      exact jr v d m2 B2 H2 o2 ((f1.trans fr').trans f2) i2 g2
    · obtain ⟨n, ρ', B', ok', fr', hI⟩ := w
      rw [is.length] at hI
      exact k σ' ρ' n B' H' ok' (f1.trans fr') (hd n ρ' hI)
theorem s_forL {j : Nat}
    (h : EvC K l tl ρ m fun m1 x => ∃ ds, x = .lst ds ∧
      ∃ I : Nat → Nat → Ro → Prop, I 0 m1 ρ ∧
      (∀ i n ρ' d, ds[i]? = some d → I i n ρ' →
        SvC K l tb (ρ'.set j (some (.dat d))) n (fun n2 ρ2 =>
          I (i + 1) n2 ρ2) Rt) ∧
      ∀ n ρ', I ds.length n ρ' → Nx n ρ') :
    SvC K l (tFor (iList K tl) (gName j) tb) ρ m Nx Rt := by
  intro Z B H σ W ok k jr
  refine h Z B H σ _ ok fun v x m1 B1 H1 o1 f1 i1 g1 => ?_
  obtain ⟨ds, rfl, I, h0, hs, hd⟩ := g1
  cases i1 with
  | @lst a xs ds hT is =>
    refine ⟨a, rfl, ⟨xs, SqL.of (o1.sub _ _ hT)⟩, ?_⟩
    refine for_list (xs := xs) (fun i σ' H' => ∃ n ρ' B',
      Ok K l Z n B' H' σ' ρ' ∧ Fr Z B1 H1 B' H' ∧ I i n ρ')
      ⟨m1, ρ, B1, o1, Fr.refl, h0⟩ (fun i σ' H' _ w => ?_)
      (fun i x σ' H' e w => ?_) fun σ' H' w => ?_
    · obtain ⟨n, ρ', B', ok', fr', _⟩ := w
      exact SqL.of (ok'.sub _ _ (fr'.sub _ _ hT))
    · obtain ⟨n, ρ', B', ok', fr', hI⟩ := w
      obtain ⟨d, e2, q⟩ := (is.mono fr'.sub).get e
      refine hs i n ρ' d e2 hI Z B' H' _ _ (ok'.set q)
        (fun σ2 ρ2 m2 B2 H2 o2 f2 g2 => ⟨m2, ρ2, B2, o2, fr'.trans f2, g2⟩)
        fun v d m2 B2 H2 o2 f2 i2 g2 => ?_
      exact jr v d m2 B2 H2 o2 ((f1.trans fr').trans f2) i2 g2
    · obtain ⟨n, ρ', B', ok', fr', hI⟩ := w
      rw [is.length] at hI
      exact k σ' ρ' n B' H' ok' (f1.trans fr') (hd n ρ' hI)
theorem s_forR {j : Nat}
    (h : AvC K l tA ρ m fun m1 x => ∃ c : Int, x = [.int c] ∧
      c < 2 ^ 62 ∧ -(2 ^ 62) ≤ c ∧
      ∃ I : Nat → Nat → Ro → Prop, I 0 m1 ρ ∧
      (∀ (i n : Nat) ρ', i < c.toNat → I i n ρ' →
        SvC K l tb (ρ'.set j (some (.dat (.int i)))) n (fun n2 ρ2 =>
          I (i + 1) n2 ρ2) Rt) ∧
      ∀ n ρ', I c.toNat n ρ' → Nx n ρ') :
    SvC K l (tFor (iRng1 tA) (gName j) tb) ρ m Nx Rt := by
  intro Z B H σ W ok k jr
  refine h Z B H σ _ ok fun vs x m1 B1 H1 o1 f1 i1 g1 => ?_
  obtain ⟨c, rfl, hc, hc2, I, h0, hs, hd⟩ := g1
  cases i1 with
  | cons i1 r =>
    cases r
    cases i1
    refine ⟨c, rfl, hc2, hc, ?_⟩
    refine for_range (lo := 0) (n := c.toNat) (fun i σ' H' => ∃ n ρ' B',
      Ok K l Z n B' H' σ' ρ' ∧ Fr Z B1 H1 B' H' ∧ I i n ρ')
      ⟨m1, ρ, B1, o1, Fr.refl, h0⟩
      (fun i σ' H' hi w => ?_) fun σ' H' w => ?_
    · obtain ⟨n, ρ', B', ok', fr', hI⟩ := w
      have e0 : (0 : Int) + (i : Int) = (i : Int) := Int.zero_add _
      rw [e0]
      refine hs i n ρ' hi hI Z B' H' _ _ (ok'.set (.int _))
        (fun σ2 ρ2 m2 B2 H2 o2 f2 g2 => ⟨m2, ρ2, B2, o2, fr'.trans f2, g2⟩)
        fun v d m2 B2 H2 o2 f2 i2 g2 => ?_
      exact jr v d m2 B2 H2 o2 ((f1.trans fr').trans f2) i2 g2
    · obtain ⟨n, ρ', B', ok', fr', hI⟩ := w
      exact k σ' ρ' n B' H' ok' (f1.trans fr') (hd n ρ' hI)
end
end Wt

namespace Wt
open PySem PySem.Spec PyProof.Rows L2
/-- a def that reads data and tells data -/
def SpP (K : PySem.W.Frag) (pre : List D → Prop) (F : List D → D) : Sp :=
  fun vs H Q _ => ∃ B ds, Same B H ∧ IsAll K B vs ds ∧ pre ds ∧
    ∀ v B2 H2, Same B B2 → Same H H2 → Same B2 H2 →
      (∀ a, H a ≠ none → B a = none → B2 a = none) →
      Is K B2 v (F ds) → Q v H2
/-- a def whose first argument is the hand -/
def SpH (K : PySem.W.Frag) (pre : Nat → List D → Prop)
    (Ψ : List D → Nat → Nat → D → Prop) : Sp :=
  fun vs H Q _ => ∃ l ws B ds m, vs = .ref l :: ws ∧ Same B H ∧
    Hand H l m ∧ B l = none ∧ IsAll K B ws ds ∧ pre m ds ∧
    ∀ v d m' B2 H2, Hand H2 l m' → Same B B2 → Same B2 H2 →
      (∀ a o, a ≠ l → H a = some o → H2 a = some o) →
      (∀ a, H a ≠ none → B a = none → B2 a = none) →
      Ψ ds m m' d → Is K B2 v d → Q v H2
section
variable {K : PySem.W.Frag} {l : Option Addr} {ρ : Ro} {m : Nat}
variable {Φ : Nat → D → Prop} {Θ : Nat → Bool → Prop}
variable {Nx : Nat → Ro → Prop} {Rt : Nat → D → Prop} {ts tb : TS}
variable {ta te tl : TE} {t u : TT} {tA tK : TA}
variable {Z : Addr → Prop} {B H : Hp} {σ : L2.St}
theorem v_P {pre : List D → Prop} {F : List D → D} {ds : List D}
    (hp : pre ds) (q : Φ m (F ds)) {E : XK} :
    VvC K l ρ (fun vs H Q => SpP K pre F vs H Q E) ds m Φ := by
  intro Z B H σ vs Q ok is k
  refine ⟨B, ds, ok.sub, is, hp, fun v B2 H2 s1 s2 s3 fr iv => ?_⟩
  obtain ⟨o2, f2⟩ := ok.step (m' := m) s1 s3
    (fun a e => by
      obtain ⟨g, s, c, q, r⟩ := (ok.hand a e).1
      exact ⟨g, s, c, s2 _ _ q, r⟩)
    (fun a o _ e => s2 a o e) fr
  exact k v _ m B2 H2 o2 f2 iv q
theorem e_callP {pre : List D → Prop} {F : List D → D} {E : XK}
    (h : AvC K l tA ρ m fun m1 ds => pre ds ∧ Φ m1 (F ds)) :
    EvC K l (tCall (SpP K pre F) [] E tA) ρ m Φ := by
  intro Z B H σ Q ok k
  refine h Z B H σ _ ok fun vs ds m1 B1 H1 o1 f1 i1 g1 => ?_
  rw [List.append_nil]
  exact v_P g1.1 g1.2 Z B1 H1 σ vs Q o1 i1 fun v d m2 B2 H2 o2 f2 i2 g2 =>
    k v d m2 B2 H2 o2 (f1.trans f2) i2 g2
theorem e_callH {pre : Nat → List D → Prop}
    {Ψ : List D → Nat → Nat → D → Prop} {E : XK} {i : Nat}
    (hi : ρ[i]? = some (some .hand))
    (h : AvC K l tA ρ m fun m1 ds => pre m1 ds ∧
      ∀ m2 d, Ψ ds m1 m2 d → Φ m2 d) :
    EvC K l (tCall (SpH K pre Ψ) [] E (tCons (tVar i) tA)) ρ m Φ := by
  intro Z B H σ Q ok k
  obtain ⟨v0, e0, a, ha, hv⟩ := ok.sl i _ hi
  subst hv
  refine ⟨_, e0, ?_⟩
  refine h Z B H σ _ ok fun vs ds m1 B1 H1 o1 f1 i1 g1 => ?_
  show SpH K pre Ψ (V.ref a :: vs ++ []) H1 Q E
  rw [List.append_nil]
  refine ⟨a, vs, B1, ds, m1, rfl, o1.sub, (o1.hand a ha).1,
    (o1.hand a ha).2, i1, g1.1, fun v d m2 B2 H2 hh s1 s2 s3 s4 p iv => ?_⟩
  obtain ⟨o2, f2⟩ := o1.step (m' := m2) s1 s2
    (fun b e => by rw [ha] at e; cases e; exact hh)
    (fun b o n e => s3 b o (fun z => n (z ▸ ha)) e) s4
  exact k v d m2 B2 H2 o2 (f1.trans f2) iv (g1.2 m2 d p)
def datR (ds : List D) : Ro := ds.map fun d => some (.dat d)
theorem isAll_get {B : Hp} {vs : List V} {ds : List D} {i : Nat} {s : Sl}
    (h : IsAll K B vs ds) (e : (datR ds)[i]? = some (some s)) :
    ∃ v, (vs.map some)[i]? = some (some v) ∧ SlV K l Z B H v s := by
  unfold datR at e
  rw [List.getElem?_map] at e
  cases q : ds[i]? with
  | none => rw [q] at e; cases e
  | some d =>
    rw [q] at e
    cases e
    obtain ⟨v, e2, z⟩ := h.got q
    exact ⟨v, by rw [List.getElem?_map, e2]; rfl, z⟩
theorem body_P {pre : List D → Prop} {F : List D → D} {vs : List V}
    {Q : VK} {E : XK} {N : List Str} (h : SpP K pre F vs H Q E)
    (hb : ∀ ds, pre ds → vs.length = ds.length →
      SvC K none ts (datR ds ++ List.replicate (N.length - ds.length) none)
        0 (fun _ _ => F ds = .non) fun _ d => d = F ds) :
    ts { nx := fun _ H' => Q .non H', rt := Q } (start N vs) H := by
  obtain ⟨B, ds, sb, is, hp, k⟩ := h
  have hl := is.length
  have ok : Ok K none (fun a => H a ≠ none ∧ B a = none) 0 B H
      (start N vs) (datR ds ++ List.replicate (N.length - ds.length) none) := by
    refine ⟨⟨sb, fun a e => (nomatch e), fun z h => ⟨h.1, h.2, nofun⟩⟩,
      ?_, fun i s e => ?_, fun i j ds1 es a n po p2 e1 => ?_⟩
    · unfold L2.start datR
      simp [hl]
    · rcases Nat.lt_or_ge i ds.length with hi | hi
      · rw [List.getElem?_append_left (by unfold datR; simpa using hi)] at e
        obtain ⟨v, e2, q⟩ := isAll_get (l := none)
          (Z := fun a => H a ≠ none ∧ B a = none) (H := H) is e
        refine ⟨v, ?_, q⟩
        unfold L2.start
        rw [List.getElem?_append_left (by simpa [hl] using hi)]
        exact e2
      · rw [List.getElem?_append_right (by unfold datR; simpa using hi)] at e
        rw [List.getElem?_replicate] at e
        split at e <;> cases e
    · rcases Nat.lt_or_ge i ds.length with hi | hi
      · rw [List.getElem?_append_left (by unfold datR; simpa using hi)] at e1
        unfold datR at e1
        rw [List.getElem?_map] at e1
        cases q : ds[i]? with
        | none => rw [q] at e1; cases e1
        | some d => rw [q] at e1; cases e1; cases po
      · rw [List.getElem?_append_right (by unfold datR; simpa using hi)] at e1
        rw [List.getElem?_replicate] at e1
        split at e1 <;> cases e1
  have fin : ∀ v d m' B2 H2, Bs none (fun a => H a ≠ none ∧ B a = none) m' B2 H2 →
      Fr (fun a => H a ≠ none ∧ B a = none) B H B2 H2 → Is K B2 v d →
      d = F ds → Q v H2 := by
    intro v d m' B2 H2 o2 f2 i2 e
    subst e
    refine k v B2 H2 f2.sub (fun b o e => ?_) o2.sub
      (fun a h1 h2 => (o2.zs a ⟨h1, h2⟩).2.1) i2
    cases q : B b with
    | none => rw [f2.kept b ⟨by rw [e]; exact nofun, q⟩]; exact e
    | some x =>
      rw [sb b x q] at e
      cases e
      exact o2.sub b _ (f2.sub b _ q)
  exact hb ds hp hl _ B H _ _ ok
    (fun σ' ρ' m' B2 H2 o2 f2 g2 => fin .non .non m' B2 H2 o2.toBs f2 .non g2.symm)
    fin
theorem body_H {pre : Nat → List D → Prop}
    {Ψ : List D → Nat → Nat → D → Prop} {vs : List V}
    {Q : VK} {E : XK} {N : List Str} (h : SpH K pre Ψ vs H Q E)
    (hb : ∀ a ds m, pre m ds → vs.length = ds.length + 1 →
      SvC K (some a) ts (some .hand :: (datR ds ++
        List.replicate (N.length - (ds.length + 1)) none))
        m (fun m' _ => Ψ ds m m' .non) (Ψ ds m)) :
    ts { nx := fun _ H' => Q .non H', rt := Q } (start N vs) H := by
  obtain ⟨a, ws, B, ds, m, rfl, sb, hh, hB, is, hp, k⟩ := h
  have hl := is.length
  have ok : Ok K (some a) (fun b => H b ≠ none ∧ B b = none ∧ b ≠ a) m B H
      (start N (.ref a :: ws)) (some .hand :: (datR ds ++
        List.replicate (N.length - (ds.length + 1)) none)) := by
    refine ⟨⟨sb, fun b e => ?_, fun z h => ⟨h.1, h.2.1, fun e => ?_⟩⟩,
      ?_, fun i s e => ?_, fun i j ds1 es b n po p2 e1 => ?_⟩
    · cases e
      exact ⟨hh, hB⟩
    · cases e
      exact h.2.2 rfl
    · unfold L2.start datR
      simp [hl]
    · cases i with
      | zero =>
        cases e
        exact ⟨.ref a, rfl, a, rfl, rfl⟩
      | succ i =>
        rw [List.getElem?_cons_succ] at e
        rcases Nat.lt_or_ge i ds.length with hi | hi
        · rw [List.getElem?_append_left (by unfold datR; simpa using hi)] at e
          obtain ⟨v, e2, q⟩ := isAll_get (l := some a)
            (Z := fun b => H b ≠ none ∧ B b = none ∧ b ≠ a) (H := H) is e
          refine ⟨v, ?_, q⟩
          unfold L2.start
          rw [List.map_cons, List.cons_append, List.getElem?_cons_succ,
            List.getElem?_append_left (by simpa [hl] using hi)]
          exact e2
        · rw [List.getElem?_append_right (by unfold datR; simpa using hi)] at e
          rw [List.getElem?_replicate] at e
          split at e <;> cases e
    · cases i with
      | zero => cases e1; cases po
      | succ i =>
        rw [List.getElem?_cons_succ] at e1
        rcases Nat.lt_or_ge i ds.length with hi | hi
        · rw [List.getElem?_append_left (by unfold datR; simpa using hi)] at e1
          unfold datR at e1
          rw [List.getElem?_map] at e1
          cases q : ds[i]? with
          | none => rw [q] at e1; cases e1
          | some d => rw [q] at e1; cases e1; cases po
        · rw [List.getElem?_append_right (by unfold datR; simpa using hi)] at e1
          rw [List.getElem?_replicate] at e1
          split at e1 <;> cases e1
  have fin : ∀ v d m' B2 H2,
      Bs (some a) (fun b => H b ≠ none ∧ B b = none ∧ b ≠ a) m' B2 H2 →
      Fr (fun b => H b ≠ none ∧ B b = none ∧ b ≠ a) B H B2 H2 →
      Is K B2 v d → Ψ ds m m' d → Q v H2 := by
    intro v d m' B2 H2 o2 f2 i2 e
    refine k v d m' B2 H2 (o2.hand a rfl).1 f2.sub o2.sub
      (fun b o n e => ?_) (fun b h1 h2 => ?_) e i2
    · cases q : B b with
      | none =>
        rw [f2.kept b ⟨by rw [e]; exact nofun, q, n⟩]
        exact e
      | some x =>
        rw [sb b x q] at e
        cases e
        exact o2.sub b _ (f2.sub b _ q)
    · by_cases n : b = a
      · subst n
        exact (o2.hand b rfl).2
      · exact (o2.zs b ⟨h1, h2, n⟩).2.1
  exact hb a ds m hp (by simp [hl]) _ B H _ _ ok
    (fun σ' ρ' m' B2 H2 o2 f2 g2 => fin .non .non m' B2 H2 o2.toBs f2 .non g2)
    fin
theorem Ok.setOwn {p : Addr} {xs : List V} {ds : List D} {i : Nat}
    (h : Ok K l (fun a => Z a ∨ a = p) m B H σ ρ) (hz : ¬ Z p)
    (hp : H p = some (.lst xs)) (is : IsAll K B xs ds) :
    Ok K l Z m B H (σ.set i (some (.ref p))) (ρ.set i (some (.own ds))) := by
  obtain ⟨z1, z2, z3⟩ := h.zs p (.inr rfl)
  have at_i : ∀ {s : Sl}, (ρ.set i (some (.own ds)))[i]? = some (some s) →
      i < ρ.length ∧ s = .own ds := by
    intro s e
    obtain ⟨hi, q⟩ := List.getElem?_eq_some_iff.mp e
    rw [List.length_set] at hi
    rw [List.getElem?_set_self hi] at e
    cases e
    exact ⟨hi, rfl⟩
  refine ⟨⟨h.sub, h.hand, fun z hz' => h.zs z (.inl hz')⟩, ?_, ?_, ?_⟩
  · rw [List.length_set, List.length_set]
    exact h.len
  · intro j s e
    by_cases hj : i = j
    · subst hj
      obtain ⟨hi, rfl⟩ := at_i e
      exact ⟨.ref p, List.getElem?_set_self (by rw [h.len]; exact hi),
        p, xs, rfl, hp, z2, hz, z3, is⟩
    · rw [List.getElem?_set_ne hj] at e ⊢
      obtain ⟨v, e1, q⟩ := h.sl j s e
      refine ⟨v, e1, ?_⟩
      cases s with
      | dat d => exact q
      | hand => exact q
      | own es =>
        obtain ⟨a, ys, rfl, q1, q2, q3, q4, q5⟩ := q
        exact ⟨a, ys, rfl, q1, q2, fun z => q3 (.inl z), q4, q5⟩
      | obj R =>
        obtain ⟨a, o', rfl, q1, q2, q3, q4, q5⟩ := q
        exact ⟨a, o', rfl, q1, q2, fun z => q3 (.inl z), q4, q5⟩
  · intro j k ds1 es a n p1 p2 e1 e2 s1 s2
    have other : ∀ (k : Nat) es, es.owns = true → i ≠ k → ρ[k]? = some (some es) →
        σ[k]? ≠ some (some (.ref p)) := by
      intro k es po hk e s
      obtain ⟨v, e1, q⟩ := h.sl k _ e
      obtain ⟨a, ys, rfl, q1, q2, q3, q4⟩ := SlV.owned po q
      rw [e1] at s
      cases s
      exact q3 (.inr rfl)
    by_cases hj : i = j
    · subst hj
      have hk : i ≠ k := n
      rw [List.getElem?_set_ne hk] at e2 s2
      obtain ⟨hi, _⟩ := at_i e1
      rw [List.getElem?_set_self (by rw [h.len]; exact hi)] at s1
      cases s1
      exact other k es p2 hk e2 s2
    · rw [List.getElem?_set_ne hj] at e1 s1
      by_cases hk : i = k
      · subst hk
        obtain ⟨hi, _⟩ := at_i e2
        rw [List.getElem?_set_self (by rw [h.len]; exact hi)] at s2
        cases s2
        exact other j ds1 p1 hj e1 s1
      · rw [List.getElem?_set_ne hk] at e2 s2
        exact h.dis j k ds1 es a n p1 p2 e1 e2 s1 s2
/-- x = [] that will grow -/
theorem s_own0 {i : Nat} (q : Nx m (ρ.set i (some (.own [])))) :
    SvC K l (tAsg (tLst tNil) (gName i)) ρ m Nx Rt := by
  intro Z B H σ W ok k _
  refine ⟨Nat.zero_le _, fun p hp => ?_⟩
  have hz : ¬ Z p := fun z => (ok.zs p z).1 hp
  refine k _ _ m B _ ((ok.aside (o := .lst []) hp).setOwn hz upd_same .nil)
    ⟨Same.refl B, fun z hz' => upd_ne fun e => hz (e ▸ hz')⟩ q
/-- an own list is written -/
theorem Ok.grow {i : Nat} {ds es : List D} {a : Addr} {xs : List V}
    (h : Ok K l Z m B H σ ρ) (hi : ρ[i]? = some (some (.own ds)))
    (hs : σ[i]? = some (some (.ref a))) (is : IsAll K B xs es) :
    Ok K l Z m B (upd H a (.lst xs)) σ (ρ.set i (some (.own es))) ∧
      Fr Z B H B (upd H a (.lst xs)) := by
  obtain ⟨v, e1, b, ys, rfl, q1, q2, q3, q4, q5⟩ := h.sl i _ hi
  rw [hs] at e1
  cases e1
  have hiL : i < ρ.length := (List.getElem?_eq_some_iff.mp hi).1
  refine ⟨⟨⟨fun b x e => ?_, fun b e => ⟨?_, (h.hand b e).2⟩, ?_⟩, ?_, ?_, ?_⟩,
    ⟨Same.refl B, fun z hz => upd_ne fun e => q3 (e ▸ hz)⟩⟩
  · rw [upd_ne (fun (z : b = a) => by subst z; rw [q2] at e; cases e)]
    exact h.sub b x e
  · obtain ⟨g, s, c, q, r⟩ := (h.hand b e).1
    refine ⟨g, s, c, ?_, r⟩
    rw [upd_ne (fun (z : b = a) => q4 (z ▸ e))]
    exact q
  · intro z hz
    obtain ⟨w1, w2, w3⟩ := h.zs z hz
    refine ⟨?_, w2, w3⟩
    rw [upd_ne (fun (e : z = a) => q3 (e ▸ hz))]
    exact w1
  · rw [List.length_set]
    exact h.len
  · intro j s e
    by_cases hj : i = j
    · subst hj
      rw [List.getElem?_set_self hiL] at e
      cases e
      exact ⟨.ref a, hs, a, xs, rfl, upd_same, q2, q3, q4, is⟩
    · rw [List.getElem?_set_ne hj] at e
      obtain ⟨v, e1, q⟩ := h.sl j s e
      refine ⟨v, e1, ?_⟩
      cases s with
      | dat d => exact q
      | hand => exact q
      | own fs =>
        obtain ⟨b, zs, rfl, p1, p2, p3, p4, p5⟩ := q
        refine ⟨b, zs, rfl, ?_, p2, p3, p4, p5⟩
        rw [upd_ne (fun (z : b = a) => by
          subst z
          exact h.dis i j _ _ b hj rfl rfl hi e hs e1)]
        exact p1
      | obj R =>
        obtain ⟨b, zs, rfl, p1, p2, p3, p4, p5⟩ := q
        refine ⟨b, zs, rfl, ?_, p2, p3, p4, p5⟩
        rw [upd_ne (fun (z : b = a) => by
          subst z
          exact h.dis i j _ _ b hj rfl rfl hi e hs e1)]
        exact p1
  · intro j k ds1 es1 b n p1 p2 e1 e2
    have back : ∀ (j : Nat) x, x.owns = true → (ρ.set i (some (.own es)))[j]? =
        some (some x) → ∃ y, y.owns = true ∧ ρ[j]? = some (some y) := by
      intro j x px e
      by_cases hj : i = j
      · subst hj; exact ⟨_, rfl, hi⟩
      · rw [List.getElem?_set_ne hj] at e; exact ⟨x, px, e⟩
    obtain ⟨ds2, o1, e1'⟩ := back j ds1 p1 e1
    obtain ⟨es2, o2, e2'⟩ := back k es1 p2 e2
    exact h.dis j k ds2 es2 b n o1 o2 e1' e2'
theorem s_app {i : Nat} {ds : List D} (hi : ρ[i]? = some (some (.own ds)))
    (hl : ds.length < 100000)
    (h : EvC K l te ρ m fun m1 d =>
      Nx m1 (ρ.set i (some (.own (ds ++ [d]))))) :
    SvC K l (tDrop (tBM K "list" rAppend (tVar i) (tCons te tNil))) ρ m
      Nx Rt := by
  intro Z B H σ W ok k _
  obtain ⟨v, e1, a, xs, rfl, q1, q2, q3, q4, q5⟩ := ok.sl i _ hi
  refine ⟨_, e1, .inl ⟨rfl, _, SqL.of q1⟩, ?_⟩
  refine h Z B H σ _ ok fun v d m1 B1 H1 o1 f1 i1 g1 => ?_
  obtain ⟨v', e1', a', xs', hv, w1, w2, w3, w4, w5⟩ := o1.sl i _ hi
  subst hv
  rw [e1] at e1'
  cases e1'
  refine ⟨a, xs', v, rfl, rfl, w1, ?_, ?_⟩
  · rw [w5.length]
    exact Nat.lt_of_lt_of_le hl (by decide)
  · obtain ⟨o2, f2⟩ := o1.grow hi e1 (w5.append (.cons i1 .nil))
    exact k _ _ m1 B1 _ o2 (f1.trans f2) g1
/-- an own list is data from here on -/
theorem s_freeze {i : Nat} {ds : List D}
    (hi : ρ[i]? = some (some (.own ds)))
    (h : SvC K l ts (ρ.set i (some (.dat (.lst ds)))) m Nx Rt) :
    SvC K l ts ρ m Nx Rt := by
  intro Z B H σ W ok k j
  obtain ⟨v, e1, a, xs, rfl, q1, q2, q3, q4, q5⟩ := ok.sl i _ hi
  have sm : Same B (upd B a (.lst xs)) := same_new q2
  have hiL : i < ρ.length := (List.getElem?_eq_some_iff.mp hi).1
  have ok2 : Ok K l Z m (upd B a (.lst xs)) H σ
      (ρ.set i (some (.dat (.lst ds)))) := by
    refine ⟨⟨fun b x e => ?_, fun b e => ⟨(ok.hand b e).1, ?_⟩, ?_⟩, ?_, ?_, ?_⟩
    · by_cases n : b = a
      · subst n; rw [upd_same] at e; cases e; exact q1
      · rw [upd_ne n] at e; exact ok.sub b x e
    · rw [upd_ne (fun (z : b = a) => q4 (z ▸ e))]
      exact (ok.hand b e).2
    · intro z hz
      obtain ⟨w1, w2, w3⟩ := ok.zs z hz
      refine ⟨w1, ?_, w3⟩
      rw [upd_ne (fun (e : z = a) => q3 (e ▸ hz))]
      exact w2
    · rw [List.length_set]
      exact ok.len
    · intro j s e
      by_cases hj : i = j
      · subst hj
        rw [List.getElem?_set_self hiL] at e
        cases e
        exact ⟨_, e1, .lst upd_same (q5.mono sm)⟩
      · rw [List.getElem?_set_ne hj] at e
        obtain ⟨v, e2, q⟩ := ok.sl j s e
        refine ⟨v, e2, ?_⟩
        cases s with
        | dat d => exact Is.mono sm q
        | hand => exact q
        | own fs =>
          obtain ⟨b, zs, rfl, p1, p2, p3, p4, p5⟩ := q
          refine ⟨b, zs, rfl, p1, ?_, p3, p4, p5.mono sm⟩
          rw [upd_ne (fun (z : b = a) => by
            subst z
            exact ok.dis i j _ _ b hj rfl rfl hi e e1 e2)]
          exact p2
        | obj R =>
          obtain ⟨b, zs, rfl, p1, p2, p3, p4, p5, p6⟩ := q
          refine ⟨b, zs, rfl, p1, ?_, p3, p4, p6 _ _ sm p5, p6⟩
          rw [upd_ne (fun (z : b = a) => by
            subst z
            exact ok.dis i j _ _ b hj rfl rfl hi e e1 e2)]
          exact p2
    · intro j k ds1 es b n p1 p2 e1' e2'
      have ne : ∀ (j : Nat) x, x.owns = true → (ρ.set i (some (.dat (.lst ds))))[j]? =
          some (some x) → ρ[j]? = some (some x) := by
        intro j x px e
        by_cases hj : i = j
        · subst hj; rw [List.getElem?_set_self hiL] at e; cases e; cases px
        · rw [List.getElem?_set_ne hj] at e; exact e
      exact ok.dis j k ds1 es b n p1 p2 (ne _ _ p1 e1') (ne _ _ p2 e2')
  have f0 : Fr Z B H (upd B a (.lst xs)) H := ⟨sm, fun _ _ => rfl⟩
  exact h Z _ H σ W ok2
    (fun σ2 ρ2 m2 B2 H2 o2 f2 g2 => k σ2 ρ2 m2 B2 H2 o2 (f0.trans f2) g2)
    fun v d m2 B2 H2 o2 f2 i2 g2 => j v d m2 B2 H2 o2 (f0.trans f2) i2 g2
end
end Wt

namespace Wt
open PySem PySem.Spec PyProof.Rows L2
mutual
def D.py : D → PyData
  | .non => .none
  | .bl b => .bool b
  | .int i => .int i
  | .str x => .str x
  | .lst xs => .list (D.pys xs)
  | .tup xs => .tuple (D.pys xs)
  | .dic kis => .dict (kis.map fun p => (.int p.1, .int p.2))
  | .ins _ _ _ => .none
  | .scr _ => .none
  | .dct _ _ => .none
def D.pys : List D → List PyData
  | [] => []
  | x :: xs => D.py x :: D.pys xs
end
mutual
/-- no instance, no script within -/
def D.plain : D → Bool
  | .lst xs => D.plains xs
  | .tup xs => D.plains xs
  | .ins _ _ _ => false
  | .scr _ => false
  | .dct _ _ => false
  | _ => true
def D.plains : List D → Bool
  | [] => true
  | x :: xs => D.plain x && D.plains xs
end
mutual
def D.noLst : D → Bool
  | .lst _ => false
  | .tup xs => D.noLsts xs
  | _ => true
def D.noLsts : List D → Bool
  | [] => true
  | x :: xs => D.noLst x && D.noLsts xs
end
section
variable {X : Cx} {pins : List (Addr × Obj)} {σ : L2.St} {H B : Hp}
variable {s : Shared}
theorem kv_reads {w : World} {P : Program} (h : Heap) :
    ∀ {kis : List (Int × Int)} {vs : List (Key × Value)} {es : List DictEntry},
    KV (kis.map fun p => ((Sum.inl p.1 : Key), V.int p.2)) vs →
    Pairs (mixKind P w) es vs →
    ReadsAll h (es.map (·.key)) ((kis.map fun p =>
      (PyData.int p.1, PyData.int p.2)).map (·.1)) [] ∧
    ReadsAll h (es.map (·.val)) ((kis.map fun p =>
      (PyData.int p.1, PyData.int p.2)).map (·.2)) []
  | [], _, _, k, p => by
    cases k
    cases p
    exact ⟨.nil, .nil⟩
  | (i, j) :: kis, _, _, k, p => by
    cases k with
    | @cons a b as bs hab r =>
      cases p with
      | @cons e kv es' kvs h1 h2 pr =>
        obtain ⟨q1, q2⟩ := kv_reads (w := w) (P := P) h r pr
        obtain ⟨e1, t, e2⟩ := hab
        have h1' : keyIs b.1 e.key = true := h1
        rw [← e1] at h1'
        rcases keyIs_shape h1' with ⟨i', t', ei, ek⟩ | ⟨x, t', ei, _⟩
        · cases ei
          refine ⟨?_, ?_⟩
          · show ReadsAll h (e.key :: _) (PyData.int i :: _) ([] ++ [])
            rw [ek]
            exact .cons (.int _ _) q1
          · show ReadsAll h (e.val :: _) (PyData.int j :: _) ([] ++ [])
            rw [h2, e2]
            exact .cons (.int _ _) q2
        · cases ei
mutual
theorem Is.reads (I : Inv X pins σ H s) (sb : Same B H) :
    ∀ {v : V} {d : D} {u : Value}, Is X.K B v d → d.plain = true →
      RelV v u → ∃ as, Reads s.heap u d.py as ∧
        (d.noLst = true → sysModules ∉ as)
  | _, _, _, .non, _, r => by
    cases r
    exact ⟨_, .none, fun _ => nofun⟩
  | _, _, _, .bl b, _, r => by
    cases r
    exact ⟨_, .bool b, fun _ => nofun⟩
  | _, _, _, .int i, _, r => by
    obtain ⟨t, rfl⟩ := r
    exact ⟨_, .int i t, fun _ => nofun⟩
  | _, _, _, .str x, _, r => by
    obtain ⟨t, rfl⟩ := r
    exact ⟨_, .str x t, fun _ => nofun⟩
  | _, _, _, .lst h is, p, r => by
    cases r
    obtain ⟨its, rv, ⟨o, n, ho, hc, _, hd⟩, _⟩ := I.list (SqL.of (sb _ _ h))
    obtain ⟨as, hr, _⟩ := IsAll.reads I sb is (by simpa [D.plain] using p) rv
    exact ⟨_, .list ho hc hd hr, fun z => by simp [D.noLst] at z⟩
  | _, _, _, .tup h is _, p, r => by
    cases r
    obtain ⟨its, rv, ⟨o, ho, hc, n, hd⟩, _⟩ := I.tuple (sameT sb h)
    obtain ⟨as, hr, hn⟩ := IsAll.reads I sb is (by simpa [D.plain] using p) rv
    exact ⟨_, .tuple ho hc hd hr, fun z => hn (by simpa [D.noLst] using z)⟩
  | _, _, _, .dic h, _, r => by
    cases r
    obtain ⟨_, hs, vs, kv, o, es, ep, ho, hx, hd, _, pr, _⟩ := (rdMono sb h).ok I.hok
    obtain ⟨q1, q2⟩ := kv_reads (P := X.prog) (w := X.w) s.heap kv pr
    refine ⟨_, .dict ho hx.1 hd q1 q2, fun _ hm => ?_⟩
    rw [List.append_nil, List.mem_singleton] at hm
    rw [← hm] at hs
    simp at hs
  | _, _, _, .ins _ _, p, _ => by simp [D.plain] at p
  | _, _, _, .scr _, p, _ => by simp [D.plain] at p
  | _, _, _, .dct _ _ _, p, _ => by simp [D.plain] at p
theorem IsAll.reads (I : Inv X pins σ H s) (sb : Same B H) :
    ∀ {vs : List V} {ds : List D} {us : List Value}, IsAll X.K B vs ds →
      D.plains ds = true → Vals vs us → ∃ as, ReadsAll s.heap us (D.pys ds) as ∧
        (D.noLsts ds = true → sysModules ∉ as)
  | _, _, _, .nil, _, r => by
    cases r
    exact ⟨_, .nil, fun _ => nofun⟩
  | _, _, _, .cons h is, p, r => by
    cases r with
    | cons r1 r2 =>
      rw [D.plains, Bool.and_eq_true] at p
      obtain ⟨as, q1, n1⟩ := Is.reads I sb h p.1 r1
      obtain ⟨bs, q2, n2⟩ := IsAll.reads I sb is p.2 r2
      refine ⟨_, .cons q1 q2, fun z => ?_⟩
      rw [D.noLsts, Bool.and_eq_true] at z
      intro hm
      rcases List.mem_append.mp hm with hm | hm
      · exact n1 z.1 hm
      · exact n2 z.2 hm
end
end
section
variable {P : Program} {w : World} {h : Heap}
/-- a value whose text repr tells -/
def Told (P : Program) (w : World) (h : Heap) (u : Value) (d : PyData) : Prop :=
  ∃ bs, ReadAtMost h d.depth bs ∧ ReprK P w bs h d.depth u d.shown
def ToldAll (P : Program) (w : World) (h : Heap) (us : List Value) (ds : List PyData) : Prop :=
  ∃ bs, ReadAtMost h (PyData.depthAll ds) bs ∧
    ReprAllK P w bs h (PyData.depthAll ds) us (PyData.shownAll ds)
theorem told_plain {u : Value} {d : PyData} {as : List Addr} (r : Reads h u d as)
    (ab : d.showable = true) (no : sysModules ∉ as) (sm : d.shown.length ≤ sizeLine) :
    Told P w h u d := ReprK.of_reads r ab (fun _ => no) sm
theorem ToldAll.add {u : Value} {us : List Value} {d : PyData} {ds : List PyData}
    (x : Told P w h u d) (y : ToldAll P w h us ds) : ToldAll P w h (u :: us) (d :: ds) := by
  obtain ⟨b1, h1, k1⟩ := x
  obtain ⟨b2, h2, k2⟩ := y
  have l1 : d.depth ≤ PyData.depthAll (d :: ds) := by
    rw [PyData.depthAll]; exact Nat.le_max_left _ _
  have l2 : PyData.depthAll ds ≤ PyData.depthAll (d :: ds) := by
    rw [PyData.depthAll]; exact Nat.le_max_right _ _
  refine ⟨b1 ++ b2, (h1.mono l1).append (h2.mono l2), ?_⟩
  rw [PyData.shownAll]
  exact .cons ((k1.more fun b => List.mem_append_left b2).level_le l1)
    (k2.more_le (fun b => List.mem_append_right b1) l2)
/-- the same of a list's or a tuple's items, with what its own repr needs -/
structure Within (P : Program) (w : World) (h : Heap) (a : Addr) (us : List Value)
    (ds : List PyData) (bs : List Addr) : Prop where
  most : ReadAtMost h (PyData.depthAll ds) bs
  all : ReprAllK P w bs h (PyData.depthAll ds) us (PyData.shownAll ds)
  out : a ∉ bs
theorem ToldAll.within {a : Addr} {us : List Value} {ds : List PyData} {d : PyData}
    {as : List Addr} (y : ToldAll P w h us ds) (r : Reads h (.ref a) d as)
    (hd : d.depth = PyData.depthAll ds + 1) : ∃ bs, Within P w h a us ds bs := by
  obtain ⟨bs, h1, k1⟩ := y
  exact ⟨bs, h1, k1, not_mem_of_deeper r (by omega) h1⟩
end
section
variable {X : Cx} {pins : List (Addr × Obj)} {σ : L2.St} {H B : Hp}
variable {s : Shared}
mutual
theorem Is.told (I : Inv X pins σ H s) (sb : Same B H) :
    ∀ {v : V} {d : D} {u : Value}, Is X.K B v d → d.plain = true → RelV v u →
      d.py.showable = true → d.py.shown.length ≤ sizeLine →
      Told X.prog X.w s.heap u d.py
  | _, _, _, .non, _, r, ab, sm => by
    cases r
    exact told_plain .none ab nofun sm
  | _, _, _, .bl b, _, r, ab, sm => by
    cases r
    exact told_plain (.bool b) ab nofun sm
  | _, _, _, .int i, _, r, ab, sm => by
    obtain ⟨t, rfl⟩ := r
    exact told_plain (.int i t) ab nofun sm
  | _, _, _, .str x, _, r, ab, sm => by
    obtain ⟨t, rfl⟩ := r
    exact told_plain (.str x t) ab nofun sm
  | _, _, _, .lst (ds := ds) hB is, p, r, ab, sm => by
    have rd := Is.reads I sb (.lst hB is) p r
    cases r
    obtain ⟨as, rd, _⟩ := rd
    obtain ⟨its, rv, ⟨o, n, ho, hc, _, hd⟩, _⟩ := I.list (SqL.of (sb _ _ hB))
    have sm : (listText (PyData.shownAll (D.pys ds))).length ≤ sizeLine := by
      rw [D.py, PyData.shown] at sm; exact sm
    obtain ⟨bs, W⟩ := (IsAll.told I sb is (by simpa [D.plain] using p) rv
      (by rw [D.py, PyData.showable] at ab; exact ab)
      fun t ht => Nat.le_trans (listText_mem_le ht) sm).within rd (by rw [D.py, PyData.depth])
    refine ⟨_, ReadAtMost.cons rd (by rw [D.py, PyData.depth]; omega) W.most, ?_⟩
    rw [D.py, PyData.depth, PyData.shown]
    cases its with
    | cons x q =>
      exact .list ho hc hd W.out (by simpa using W.all.length_eq)
        fun i y e => W.all.item i y (by simpa using e)
    | nil =>
      cases rv
      cases is
      exact .listEmpty ho hc hd
  | _, _, _, .tup (ds := ds) hB is c, p, r, ab, sm => by
    have rd := Is.reads I sb (.tup hB is c) p r
    cases r
    obtain ⟨as, rd, _⟩ := rd
    obtain ⟨its, rv, ⟨o, ho, hc, n, hd⟩, _⟩ := I.tuple (sameT sb hB)
    have sm : (tupleText (PyData.shownAll (D.pys ds))).length ≤ sizeLine := by
      rw [D.py, PyData.shown] at sm; exact sm
    obtain ⟨bs, W⟩ := (IsAll.told I sb is (by simpa [D.plain] using p) rv
      (by rw [D.py, PyData.showable] at ab; exact ab)
      fun t ht => Nat.le_trans (tupleText_mem_le ht) sm).within rd (by rw [D.py, PyData.depth])
    refine ⟨_, ReadAtMost.cons rd (by rw [D.py, PyData.depth]; omega) W.most, ?_⟩
    rw [D.py, PyData.depth, PyData.shown]
    exact .tuple ho hc hd W.out W.all
  | _, _, _, .dic hB, p, r, ab, sm => by
    obtain ⟨as, rd, no⟩ := Is.reads I sb (.dic hB) p r
    exact told_plain rd ab (no rfl) sm
  | _, _, _, .ins _ _, p, _, _, _ => by simp [D.plain] at p
  | _, _, _, .scr _, p, _, _, _ => by simp [D.plain] at p
  | _, _, _, .dct _ _ _, p, _, _, _ => by simp [D.plain] at p
theorem IsAll.told (I : Inv X pins σ H s) (sb : Same B H) :
    ∀ {vs : List V} {ds : List D} {us : List Value}, IsAll X.K B vs ds →
      D.plains ds = true → Vals vs us → PyData.showableAll (D.pys ds) = true →
      (∀ t ∈ PyData.shownAll (D.pys ds), t.length ≤ sizeLine) →
      ToldAll X.prog X.w s.heap us (D.pys ds)
  | _, _, _, .nil, _, r, _, _ => by
    cases r
    exact ⟨[], nofun, .nil⟩
  | _, _, _, .cons h is, p, r, ab, sm => by
    cases r with
    | cons r1 r2 =>
      rw [D.plains, Bool.and_eq_true] at p
      rw [D.pys, PyData.showableAll, Bool.and_eq_true] at ab
      rw [D.pys, PyData.shownAll] at sm
      exact ToldAll.add (Is.told I sb h p.1 r1 ab.1 (sm _ List.mem_cons_self))
        (IsAll.told I sb is p.2 r2 ab.2 fun t ht => sm t (List.mem_cons_of_mem _ ht))
end
end
/-- what can be shown -/
structure Shows (d : D) : Prop where
  plain : d.plain = true
  able : d.py.showable = true
  deep : d.py.depth ≤ 100
  small : d.py.shown.length ≤ sizeLine
def rRepr (K : PySem.W.Frag) : List V → Hp → VK → Prop := fun vs H Q =>
  ∃ v d B, vs = [v] ∧ Same B H ∧ Is K B v d ∧ Shows d ∧
    Q (.str d.py.shown) H
theorem call_reprD {X : Cx} {k : Nat} (hG : X.A.guards = some [])
    (hr : Room k X.A) : CallR X (.builtin "repr") (rRepr X.K) := by
  intro pins s σ H xs us Q I r h
  obtain ⟨v, d, B, rfl, sb, is, sh, q⟩ := h
  obtain ⟨u, rfl, ru⟩ := vals1 r
  have hun : X.A.units + 200 < cLine := by have := hr.un; omega
  have fin : ∀ h' t tk, (∀ b o, s.heap.get? b = some o → h'.get? b = some o) →
      EP X pins σ Q (.str d.py.shown t) { s with heap := h', toks := tk } :=
    fun h' t tk hk => ⟨.str d.py.shown, H, I.kept hk, ⟨t, rfl⟩, q⟩
  cases is with
  | non =>
    cases ru
    exact PySem.P.repr_of_none ⟨.str _, H, I.tok _, ⟨_, rfl⟩, q⟩
  | bl b =>
    cases ru
    exact PySem.P.repr_of_bool ⟨.str _, H, I.tok _, ⟨_, rfl⟩, q⟩
  | int i =>
    obtain ⟨t, rfl⟩ := ru
    have e : i.natAbs.log2 < 1920 := by
      have := sh.able
      simpa [D.py, PyData.showable] using this
    exact PySem.P.repr_of_int e ⟨.str _, H, I.tok _, ⟨_, rfl⟩, q⟩
  | str x =>
    obtain ⟨t, rfl⟩ := ru
    exact PySem.P.repr_of_str ⟨.str _, H, I.tok _, ⟨_, rfl⟩, q⟩ sh.small
  | @lst a ys ds h is =>
    cases ru
    obtain ⟨as, rd, _⟩ := Is.reads I sb (.lst h is) sh.plain rfl
    obtain ⟨its, rv, ⟨o, n, ho, hc, _, hd⟩, _⟩ := I.list (SqL.of (sb _ _ h))
    have sm : (listText (PyData.shownAll (D.pys ds))).length ≤ sizeLine := by
      have := sh.small
      rw [D.py, PyData.shown] at this; exact this
    obtain ⟨bs, W⟩ := (IsAll.told I sb is (by simpa [D.plain] using sh.plain) rv
      (by have := sh.able; rw [D.py, PyData.showable] at this; exact this)
      fun t ht => Nat.le_trans (listText_mem_le ht) sm).within rd (by rw [D.py, PyData.depth])
    have dp : PyData.depthAll (D.pys ds) + 1 ≤ 100 := by
      have := sh.deep
      rw [D.py, PyData.depth] at this; exact this
    refine call_repr_slot (by omega) ⟨o, ho, hc⟩ PySem.F.slot_list_repr.toG ?_
    have e : (D.lst ds).py.shown = listText (PyData.shownAll (D.pys ds)) := by
      rw [D.py, PyData.shown]
    cases its with
    | cons x q =>
      exact call_list_reprK ho hc hd W.out (by simpa using W.all.length_eq)
        (fun i y e => W.all.item i y (by simpa using e)) (A := X.A.in1) hG (fun b _ => Clear.nil b)
        (by show X.A.units + 1 + _ < cLine; omega) (fun _ _ e => e)
        (fun h' t tk hk => ⟨_, _, rfl, e ▸ fin h' t tk hk⟩) sm
    | nil =>
      cases rv
      cases is
      have := fin s.heap s.toks (s.toks + 1) fun _ _ e => e
      exact call_list_repr_empty ⟨o, ho, hc⟩ ho hd ⟨_, _, rfl, this⟩
  | @tup a ys ds h is hcl =>
    cases ru
    obtain ⟨as, rd, _⟩ := Is.reads I sb (.tup h is hcl) sh.plain rfl
    obtain ⟨its, rv, ⟨o, ho, hc, n, hd⟩, _⟩ := I.tuple (sameT sb h)
    have sm : (tupleText (PyData.shownAll (D.pys ds))).length ≤ sizeLine := by
      have := sh.small
      rw [D.py, PyData.shown] at this; exact this
    obtain ⟨bs, W⟩ := (IsAll.told I sb is (by simpa [D.plain] using sh.plain) rv
      (by have := sh.able; rw [D.py, PyData.showable] at this; exact this)
      fun t ht => Nat.le_trans (tupleText_mem_le ht) sm).within rd (by rw [D.py, PyData.depth])
    have dp : PyData.depthAll (D.pys ds) + 1 ≤ 100 := by
      have := sh.deep
      rw [D.py, PyData.depth] at this; exact this
    have e : (D.tup ds).py.shown = tupleText (PyData.shownAll (D.pys ds)) := by
      rw [D.py, PyData.shown]
    refine call_repr_slot (by omega) ⟨o, ho, hc⟩ PySem.F.slot_tuple_repr ?_
    exact call_tuple_reprK ho hc hd W.out W.all (A := X.A.in1) hG (fun b _ => Clear.nil b)
      (by show X.A.units + 1 + _ < cLine; omega) (fun _ _ e => e)
      (fun h' t tk hk => ⟨_, _, rfl, e ▸ fin h' t tk hk⟩) sm
  | @dic a kis h =>
    cases ru
    obtain ⟨as, rd, nl⟩ := Is.reads I sb (.dic h) sh.plain rfl
    exact repr_of_reads' rd sh.able (fun _ => nl rfl) hG
      (by have := sh.deep; omega) (fun _ _ e => e)
      (fun h' t tk hk => fin h' t tk hk) sh.small
  | ins h is => have := sh.plain; simp [D.plain] at this
  | scr h => have := sh.plain; simp [D.plain] at this
  | dct h _ is => have := sh.plain; simp [D.plain] at this
def D.isInt : D → Bool
  | .int _ => true
  | .bl _ => true
  | _ => false
def D.isBool : D → Bool
  | .bl _ => true
  | _ => false
def D.isTup : D → Bool
  | .tup _ => true
  | _ => false
def D.kind : D → String
  | .non => "NoneType"
  | .bl _ => "bool"
  | .int _ => "int"
  | .str _ => "str"
  | .lst _ => "list"
  | .tup _ => "tuple"
  | .dic _ => "dict"
  | .ins _ _ _ => "object"
  | .scr _ => "list"
  | .dct _ _ => "dict"
def D.own : D → Bool
  | .ins _ _ _ => true
  | .dct _ _ => true
  | _ => false
section
variable {K : PySem.W.Frag} {l : Option Addr} {ρ : Ro} {m : Nat}
variable {Φ : Nat → D → Prop} {Θ : Nat → Bool → Prop}
variable {ta te tl : TE} {t u : TT} {tA tK : TA}
variable {Z : Addr → Prop} {B H : Hp} {σ : L2.St}
theorem Is.ty {v : V} {d : D} (sb : Same B H) (h : Is K B v d)
    (n : d.own = false) : TyX K H v (.type d.kind) := by
  cases h with
  | non => exact .base .non
  | bl b => exact .base (.bl b)
  | int i => exact .base (.int i)
  | str x => exact .base (.str x)
  | lst h _ => exact .base (.lst (sb _ _ h))
  | tup h _ =>
    rcases h with (h | ⟨o, h⟩) | ⟨o, its, n, hk, hc, _⟩
    · exact .base (.tup (sb _ _ h))
    · exact .fTuple (sb _ _ h)
    · exact .kTuple hk hc
  | dic h =>
    rcases h with h | ⟨o, h⟩
    · exact .base (.dK (sb _ _ h))
    · exact .fDict (sb _ _ h)
  | ins _ _ => cases n
  | dct _ _ _ => cases n
  | scr h =>
    rcases h with ⟨o, h⟩ | ⟨o, its, n, hk, hc, _⟩
    · exact .base (.frz (sb _ _ h))
    · exact .kList hk hc
theorem e_isi {T : String} {g : D → Bool}
    (hg : ∀ d, d.own = false → kitB d.kind T = some (g d))
    (h : EvC K l ta ρ m fun m1 d => d.own = false ∧ Φ m1 (.bl (g d))) :
    EvC K l (tCB (rIsi K) (tCons ta (tCons (tC (.ty T)) tNil))) ρ m Φ := by
  intro Z B H σ Q ok k
  refine h Z B H σ _ ok fun v d m1 B1 H1 o1 f1 i1 g1 => ?_
  exact ⟨v, .ty T, _, _, g d, rfl, .ty T, i1.ty o1.sub g1.1,
    kit_ty (hg d g1.1), k _ _ m1 B1 H1 o1 f1 (.bl _) g1.2⟩
theorem kit_int (d : D) (h : d.own = false) :
    kitB d.kind "int" = some d.isInt := by
  cases d <;> first | (cases h; done) | (simp only [D.kind, D.isInt]; decide +kernel)
theorem kit_bool (d : D) (h : d.own = false) :
    kitB d.kind "bool" = some d.isBool := by
  cases d <;> first | (cases h; done) | (simp only [D.kind, D.isBool]; decide +kernel)
theorem kit_tup (d : D) (h : d.own = false) :
    kitB d.kind "tuple" = some d.isTup := by
  cases d <;> first | (cases h; done) | (simp only [D.kind, D.isTup]; decide +kernel)
abbrev rLenQ (K : PySem.W.Frag) : List V → Hp → VK → Prop := fun xs H Q =>
  ∃ p ys, xs = [.ref p] ∧ (SqL K H p ys ∨ SqT K H p ys) ∧
    Q (.int ys.length) H
abbrev rListQ (K : PySem.W.Frag) : List V → Hp → VK → Prop := fun xs H Q =>
  ∃ p ys, xs = [.ref p] ∧ (SqL K H p ys ∨ SqT K H p ys) ∧
    ∀ l, H l = none → Q (.ref l) (upd H l (.lst ys))
theorem isAll1 {vs : List V} {d : D} (h : IsAll K B vs [d]) :
    ∃ v, vs = [v] ∧ Is K B v d := by
  cases h with
  | cons h r => cases r; exact ⟨_, rfl, h⟩
theorem isAll2 {vs : List V} {d e : D} (h : IsAll K B vs [d, e]) :
    ∃ v w, vs = [v, w] ∧ Is K B v d ∧ Is K B w e := by
  cases h with
  | cons h r =>
    cases r with
    | cons h2 r => cases r; exact ⟨_, _, rfl, h, h2⟩
theorem v_repr {d : D} (s : Shows d) (q : Φ m (.str d.py.shown)) :
    VvC K l ρ (rRepr K) [d] m Φ := by
  intro Z B H σ vs Q ok is k
  obtain ⟨v, rfl, h⟩ := isAll1 is
  exact ⟨v, d, B, rfl, ok.sub, h, s, k _ _ m B H ok Fr.refl (.str _) q⟩
theorem v_lenT {ds : List D} (q : Φ m (.int ds.length)) :
    VvC K l ρ (fun xs H Q => ∃ p ys, xs = [.ref p] ∧
      (SqL K H p ys ∨ SqT K H p ys) ∧ Q (.int ys.length) H)
      [.tup ds] m Φ := by
  intro Z B H σ vs Q ok is k
  obtain ⟨v, rfl, h⟩ := isAll1 is
  cases h with
  | tup h r =>
    refine ⟨_, _, rfl, .inr (sameT ok.sub h), ?_⟩
    rw [r.length]
    exact k _ _ m B H ok Fr.refl (.int _) q
theorem v_lenL {ds : List D} (q : Φ m (.int ds.length)) :
    VvC K l ρ (fun xs H Q => ∃ p ys, xs = [.ref p] ∧
      (SqL K H p ys ∨ SqT K H p ys) ∧ Q (.int ys.length) H)
      [.lst ds] m Φ := by
  intro Z B H σ vs Q ok is k
  obtain ⟨v, rfl, h⟩ := isAll1 is
  cases h with
  | lst h r =>
    refine ⟨_, _, rfl, .inl (SqL.of (ok.sub _ _ h)), ?_⟩
    rw [r.length]
    exact k _ _ m B H ok Fr.refl (.int _) q
theorem v_lenS {ns : List Int} (q : Φ m (.int ns.length)) :
    VvC K l ρ (fun xs H Q => ∃ p ys, xs = [.ref p] ∧
      (SqL K H p ys ∨ SqT K H p ys) ∧ Q (.int ys.length) H)
      [.scr ns] m Φ := by
  intro Z B H σ vs Q ok is k
  obtain ⟨v, rfl, h⟩ := isAll1 is
  cases h with
  | scr h =>
    refine ⟨_, _, rfl, .inl (h.seq ok.sub), ?_⟩
    rw [List.length_map]
    exact k _ _ m B H ok Fr.refl (.int _) q
theorem v_listT {ds : List D} (q : Φ m (.lst ds)) :
    VvC K l ρ (fun xs H Q => ∃ p ys, xs = [.ref p] ∧
      (SqL K H p ys ∨ SqT K H p ys) ∧
      ∀ l, H l = none → Q (.ref l) (upd H l (.lst ys))) [.tup ds] m Φ := by
  intro Z B H σ vs Q ok is k
  obtain ⟨v, rfl, h⟩ := isAll1 is
  cases h with
  | tup h r =>
    refine ⟨_, _, rfl, .inr (sameT ok.sub h), fun p hp => ?_⟩
    obtain ⟨o2, f2⟩ := ok.new (o := .lst _) hp
    exact k _ _ m _ _ o2 f2 (.lst upd_same (r.mono f2.sub)) q
theorem v_tupL {ds : List D} (q : Φ m (.tup ds)) :
    VvC K l ρ (rTupC K) [.lst ds] m Φ := by
  intro Z B H σ vs Q ok is k
  obtain ⟨v, rfl, h⟩ := isAll1 is
  cases h with
  | lst h r =>
    refine ⟨_, _, rfl, .inl ⟨SqL.of (ok.sub _ _ h), fun p ob hp hd _ => ?_⟩⟩
    obtain ⟨o2, f2⟩ := ok.new (o := .frz ob (.tup _)) hp
    exact k _ _ m _ _ o2 f2 (.newT upd_same hd (r.mono f2.sub)) q
theorem bls_of : ∀ {vs : List V} {bs : List Bool},
    IsAll K B vs (bs.map D.bl) → vs = bs.map V.bl
  | _, [], h => by cases h; rfl
  | _, b :: bs, h => by
    cases h with
    | cons h r => cases h; rw [bls_of r]; rfl
theorem v_all {bs : List Bool} (q : Φ m (.bl (bs.all id))) :
    VvC K l ρ (rAll K) [.lst (bs.map D.bl)] m Φ := by
  intro Z B H σ vs Q ok is k
  obtain ⟨v, rfl, h⟩ := isAll1 is
  cases h with
  | lst h r =>
    have e := bls_of r
    subst e
    exact ⟨_, bs, rfl, SqL.of (ok.sub _ _ h),
      k _ _ m B H ok Fr.refl (.bl _) q⟩
theorem v_abs {i : Int} (q : Φ m (.int (if i < 0 then -i else i))) :
    VvC K l ρ (fun xs H Q => ∃ i, xs = [.int i] ∧
      Q (.int (if i < 0 then -i else i)) H) [.int i] m Φ := by
  intro Z B H σ vs Q ok is k
  obtain ⟨v, rfl, h⟩ := isAll1 is
  cases h
  exact ⟨i, rfl, k _ _ m B H ok Fr.refl (.int _) q⟩
theorem v_intB {b : Bool} (q : Φ m (.int (if b then 1 else 0))) :
    VvC K l ρ (fun xs H Q => (∃ i, xs = [.int i] ∧ Q (.int i) H) ∨
      ∃ k, xs = [.bl k] ∧ Q (.int (if k then 1 else 0)) H) [.bl b] m Φ := by
  intro Z B H σ vs Q ok is k
  obtain ⟨v, rfl, h⟩ := isAll1 is
  cases h
  exact .inr ⟨b, rfl, k _ _ m B H ok Fr.refl (.int _) q⟩
theorem v_max2 {i j : Int} (q : Φ m (.int (if j > i then j else i))) :
    VvC K l ρ (fun xs H Q => ∃ i j, xs = [.int i, .int j] ∧
      Q (.int (if j > i then j else i)) H) [.int i, .int j] m Φ := by
  intro Z B H σ vs Q ok is k
  obtain ⟨v, w, rfl, h, h2⟩ := isAll2 is
  cases h
  cases h2
  exact ⟨i, j, rfl, k _ _ m B H ok Fr.refl (.int _) q⟩
theorem v_min2 {i j : Int} (q : Φ m (.int (if j < i then j else i))) :
    VvC K l ρ (fun xs H Q => ∃ i j, xs = [.int i, .int j] ∧
      Q (.int (if j < i then j else i)) H) [.int i, .int j] m Φ := by
  intro Z B H σ vs Q ok is k
  obtain ⟨v, w, rfl, h, h2⟩ := isAll2 is
  cases h
  cases h2
  exact ⟨i, j, rfl, k _ _ m B H ok Fr.refl (.int _) q⟩
theorem atI_get {α : Type} {xs : List α} {i : Int} {x : α}
    (h0 : 0 ≤ i) (h : xs[i.toNat]? = some x) : atI xs i = some x := by
  have hl : i.toNat < xs.length := (List.getElem?_eq_some_iff.mp h).1
  unfold atI ixN
  rw [if_pos h0, if_pos (by omega)]
  exact h
theorem v_ixT {ds : List D} {i : Int} {d : D} (h0 : 0 ≤ i)
    (hd : ds[i.toNat]? = some d) (q : Φ m d) :
    VvC K l ρ (fun vs H Q => ∃ x y, vs = [x, y] ∧ rIxT K x y H Q)
      [.tup ds, .int i] m Φ := by
  intro Z B H σ vs Q ok is k
  obtain ⟨v, w, rfl, h, h2⟩ := isAll2 is
  cases h2
  cases h with
  | tup h r =>
    obtain ⟨x, e, z⟩ := r.got hd
    exact ⟨_, _, rfl, _, _, i, x, rfl, rfl, sameT ok.sub h, atI_get h0 e,
      k _ _ m B H ok Fr.refl z q⟩
theorem v_ixL {ds : List D} {i : Int} {d : D} (h0 : 0 ≤ i)
    (hd : ds[i.toNat]? = some d) (q : Φ m d) :
    VvC K l ρ (fun vs H Q => ∃ x y, vs = [x, y] ∧ rIxL K x y H Q)
      [.lst ds, .int i] m Φ := by
  intro Z B H σ vs Q ok is k
  obtain ⟨v, w, rfl, h, h2⟩ := isAll2 is
  cases h2
  cases h with
  | lst h r =>
    obtain ⟨x, e, z⟩ := r.got hd
    exact ⟨_, _, rfl, _, _, i, x, rfl, rfl, SqL.of (ok.sub _ _ h),
      atI_get h0 e, k _ _ m B H ok Fr.refl z q⟩
theorem v_ixS {ns : List Int} {i n : Int} (h0 : 0 ≤ i)
    (hd : ns[i.toNat]? = some n) (q : Φ m (.int n)) :
    VvC K l ρ (fun vs H Q => ∃ x y, vs = [x, y] ∧ rIxL K x y H Q)
      [.scr ns, .int i] m Φ := by
  intro Z B H σ vs Q ok is k
  obtain ⟨v, w, rfl, h, h2⟩ := isAll2 is
  cases h2
  cases h with
  | scr h =>
    refine ⟨_, _, rfl, _, _, i, .int n, rfl, rfl, h.seq ok.sub,
      atI_get h0 ?_, k _ _ m B H ok Fr.refl (.int n) q⟩
    rw [List.getElem?_map, hd]
    rfl
theorem v_catT {xs ys : List D} (hl : xs.length + ys.length ≤ 100000)
    (q : Φ m (.tup (xs ++ ys))) :
    VvC K l ρ (fun vs H Q => ∃ x y, vs = [x, y] ∧ rCatC K x y H Q)
      [.tup xs, .tup ys] m Φ := by
  intro Z B H σ vs Q ok is k
  obtain ⟨v, w, rfl, h, h2⟩ := isAll2 is
  cases h with
  | @tup a us _ h r c1 =>
    cases h2 with
    | @tup b ws _ h2 r2 c2 =>
      refine ⟨_, _, rfl, _, _, us, ws, rfl, rfl, sameT ok.sub h,
        sameT ok.sub h2, ?_, fun e => ?_, fun n e => ?_,
        fun n1 n2 p ob hp hd _ => ?_⟩
      · rw [r.length, r2.length]
        exact Nat.le_trans hl (by decide)
      · subst e
        cases r
        exact k _ _ m B H ok Fr.refl (.tup h2 r2 c2) q
      · subst e
        cases r2
        rw [List.append_nil] at q
        exact k _ _ m B H ok Fr.refl (.tup h r c1) q
      · obtain ⟨o2, f2⟩ := ok.new (o := .frz ob (.tup (us ++ ws))) hp
        exact k _ _ m _ _ o2 f2 (.newT upd_same hd
          ((r.mono f2.sub).append (r2.mono f2.sub))) q
theorem v_catL {xs ys : List D} (hl : xs.length + ys.length ≤ 100000)
    (q : Φ m (.lst (xs ++ ys))) :
    VvC K l ρ (fun vs H Q => ∃ x y, vs = [x, y] ∧ rCat x y H Q)
      [.lst xs, .lst ys] m Φ := by
  intro Z B H σ vs Q ok is k
  obtain ⟨v, w, rfl, h, h2⟩ := isAll2 is
  cases h with
  | @lst a us _ h r =>
    cases h2 with
    | @lst b ws _ h2 r2 =>
      refine ⟨_, _, rfl, _, _, us, ws, rfl, rfl, ok.sub _ _ h,
        ok.sub _ _ h2, ?_, fun p hp => ?_⟩
      · rw [r.length, r2.length]
        exact Nat.le_trans hl (by decide)
      · obtain ⟨o2, f2⟩ := ok.new (o := .lst (us ++ ws)) hp
        exact k _ _ m _ _ o2 f2 (.lst upd_same
          ((r.mono f2.sub).append (r2.mono f2.sub))) q
def cutD (xs : List D) (lo hi : Option Int) : List D :=
  (xs.drop (HT.sIx xs.length 0 lo)).take
    (HT.sIx xs.length xs.length hi - HT.sIx xs.length 0 lo)
theorem IsAll.cut {vs : List V} {ds : List D} (h : IsAll K B vs ds)
    (lo hi : Option Int) : IsAll K B (cutV vs lo hi) (cutD ds lo hi) := by
  unfold cutV cutD
  rw [h.length]
  exact (h.drop _).take _
/-- a part of a slice -/
def OvC (K : PySem.W.Frag) (l : Option Addr) (to : TO) (ρ : Ro) (m : Nat)
    (Φ : Nat → Option Int → Prop) : Prop :=
  ∀ Z B H σ (Q : Option Int → Hp → Prop), Ok K l Z m B H σ ρ →
    (∀ o m' B2 H2, Ok K l Z m' B2 H2 σ ρ → Fr Z B H B2 H2 →
      Φ m' o → Q o H2) → to σ H Q
theorem o_none {Φ : Nat → Option Int → Prop} (q : Φ m none) :
    OvC K l tNoPart ρ m Φ :=
  fun Z B H σ Q ok k => k none m B H ok Fr.refl q
theorem o_some {Φ : Nat → Option Int → Prop}
    (h : EvC K l te ρ m fun m1 d => ∃ i, d = .int i ∧ Φ m1 (some i)) :
    OvC K l (tPart te) ρ m Φ := by
  intro Z B H σ Q ok k
  refine h Z B H σ _ ok fun v d m1 B1 H1 o1 f1 i1 g1 => ?_
  obtain ⟨i, rfl, g⟩ := g1
  cases i1
  exact ⟨i, rfl, k _ m1 B1 H1 o1 f1 g⟩
theorem e_slT {tl th : TO}
    (h : EvC K l te ρ m fun m1 x => OvC K l tl ρ m1 fun m2 lo =>
      OvC K l th ρ m2 fun m3 hi => ∃ ds, x = .tup ds ∧
        Φ m3 (.tup (cutD ds lo hi))) :
    EvC K l (tSl (rSlC K) te tl th) ρ m Φ := by
  intro Z B H σ Q ok k
  refine h Z B H σ _ ok fun v x m1 B1 H1 o1 f1 i1 g1 => ?_
  refine g1 Z B1 H1 σ _ o1 fun lo m2 B2 H2 o2 f2 g2 => ?_
  refine g2 Z B2 H2 σ _ o2 fun hi m3 B3 H3 o3 f3 g3 => ?_
  obtain ⟨ds, rfl, q⟩ := g3
  have i3 := i1.mono (f2.trans f3).sub
  have f13 := f1.trans (f2.trans f3)
  cases i3 with
  | @tup a us _ h r hcl =>
    refine ⟨a, us, rfl, sameT o3.sub h, fun e => ?_, fun _ p ob hp hd _ => ?_⟩
    · have w : cutD ds lo hi = ds := by
        rw [r.length] at e
        unfold cutD
        rw [e.1, e.2, List.drop_zero, Nat.sub_zero, List.take_length]
      rw [w] at q
      exact k _ _ m3 B3 H3 o3 f13 (.tup h r hcl) q
    · obtain ⟨o4, f4⟩ := o3.new (o := .frz ob (.tup (cutV us lo hi))) hp
      exact k _ _ m3 _ _ o4 (f13.trans f4) (.newT upd_same hd
        ((r.mono f4.sub).cut lo hi)) q
/-- x in t, flat things -/
def D.flat : D → Bool
  | .non => true
  | .bl _ => true
  | .int _ => true
  | .str _ => true
  | _ => false
def D.v : D → V
  | .bl b => .bl b
  | .int i => .int i
  | .str x => .str x
  | _ => .non
theorem Is.flat {v : V} {d : D} (h : Is K B v d) (f : d.flat = true) :
    v = d.v ∧ flatV v = true := by
  cases h <;> first | exact ⟨rfl, rfl⟩ | (simp [D.flat] at f)
theorem IsAll.flat : ∀ {vs : List V} {ds : List D}, IsAll K B vs ds →
    ds.all D.flat = true → vs = ds.map D.v ∧ vs.all flatV = true
  | _, _, .nil, _ => ⟨rfl, rfl⟩
  | _, _, .cons h r, f => by
    rw [List.all_cons, Bool.and_eq_true] at f
    obtain ⟨e1, q1⟩ := h.flat f.1
    obtain ⟨e2, q2⟩ := IsAll.flat r f.2
    refine ⟨?_, ?_⟩
    · rw [List.map_cons, ← e1, ← e2]
    · rw [List.all_cons, q1, q2]
      rfl
theorem e_dic0 (q : Φ m (.dic [])) : EvC K l tDNewK ρ m Φ := by
  intro Z B H σ Q ok k p hp
  obtain ⟨o2, f2⟩ := ok.new (o := .dK []) hp
  exact k _ _ m _ _ o2 f2 (.dic (.inl upd_same)) q
/-- {i: j} of whole numbers -/
theorem e_dic1 {i j : Int} (q : Φ m (.dic [(i, j)])) :
    EvC K l (tDisp [(tC (.int i), tC (.int j))]) ρ m Φ := by
  intro Z B H σ Q ok k p hp
  refine ⟨upd_same, [(Sum.inl i, .int j)], rfl, by simp, ?_⟩
  rw [upd_upd]
  obtain ⟨o2, f2⟩ := ok.new (o := .dK [(Sum.inl i, .int j)]) hp
  exact k _ _ m _ _ o2 f2 (.dic (kis := [(i, j)]) (.inl upd_same)) q
end
section
variable {X : Cx} {CX : CXT} {k : Nat} {f : Addr} {fd : FuncData}
variable {ps ks : List Str} {sp : Sp} {E : XK} {x : Str} {p pos : Pos}
variable {kws : List Keyword} {tk : TA}
variable {g : List Value → List Value → List Value}
variable {gV : List V → List V → List V}
/-- ** of greater numbers -/
def CPowW (i j : Int) : Prop :=
  0 ≤ j ∧ (Builtin.Int.intBits i : Int) * j ≤ 2 ^ 27
theorem op_powW : OpR X (binaryOp .Pow)
    (rI CPowW fun i j => .int (i ^ j.toNat)) :=
  opI fun _ _ _ _ _ _ _ hc q => pow_int hc.1 hc.2 q
end
end Wt

namespace Wt
open PySem PySem.Spec PyProof.Rows L2
/-- a def that reads data and tells some data -/
def SpR (K : PySem.W.Frag) (pre : List D → Prop)
    (Ψ : List D → D → Prop) : Sp :=
  fun vs H Q _ => ∃ B ds, Same B H ∧ IsAll K B vs ds ∧ pre ds ∧
    ∀ v d B2 H2, Same B B2 → Same H H2 → Same B2 H2 →
      (∀ a, H a ≠ none → B a = none → B2 a = none) →
      Ψ ds d → Is K B2 v d → Q v H2
section
variable {K : PySem.W.Frag} {l : Option Addr} {ρ : Ro} {m : Nat}
variable {Φ : Nat → D → Prop} {Θ : Nat → Bool → Prop}
variable {Nx : Nat → Ro → Prop} {Rt : Nat → D → Prop} {ts tb : TS}
variable {ta te tl : TE} {t u : TT} {tA tK : TA}
variable {Z : Addr → Prop} {B H : Hp} {σ : L2.St}
theorem e_callR {pre : List D → Prop} {Ψ : List D → D → Prop} {E : XK}
    (h : AvC K l tA ρ m fun m1 ds => pre ds ∧ ∀ d, Ψ ds d → Φ m1 d) :
    EvC K l (tCall (SpR K pre Ψ) [] E tA) ρ m Φ := by
  intro Z B H σ Q ok k
  refine h Z B H σ _ ok fun vs ds m1 B1 H1 o1 f1 i1 g1 => ?_
  rw [List.append_nil]
  refine ⟨B1, ds, o1.sub, i1, g1.1, fun v d B2 H2 s1 s2 s3 fr p iv => ?_⟩
  obtain ⟨o2, f2⟩ := o1.step (m' := m1) s1 s3
    (fun a e => by
      obtain ⟨g, s, c, q, r⟩ := (o1.hand a e).1
      exact ⟨g, s, c, s2 _ _ q, r⟩)
    (fun a o _ e => s2 a o e) fr
  exact k v _ m1 B2 H2 o2 (f1.trans f2) iv (g1.2 d p)
theorem body_R {pre : List D → Prop} {Ψ : List D → D → Prop} {vs : List V}
    {Q : VK} {E : XK} {N : List Str} (h : SpR K pre Ψ vs H Q E)
    (hb : ∀ ds, pre ds → vs.length = ds.length →
      SvC K none ts (datR ds ++ List.replicate (N.length - ds.length) none)
        0 (fun _ _ => Ψ ds .non) fun _ d => Ψ ds d) :
    ts { nx := fun _ H' => Q .non H', rt := Q } (L2.start N vs) H := by
  obtain ⟨B, ds, sb, is, hp, k⟩ := h
  have ex : ∀ d, Ψ ds d → SpP K (fun x => x = ds) (fun _ => d) vs H Q E := by
    intro d hd
    exact ⟨B, ds, sb, is, rfl, fun v B2 H2 s1 s2 s3 fr iv =>
      k v d B2 H2 s1 s2 s3 fr hd iv⟩
  have hl := is.length
  have ok : Ok K none (fun a => H a ≠ none ∧ B a = none) 0 B H
      (L2.start N vs) (datR ds ++ List.replicate (N.length - ds.length) none) := by
    refine ⟨⟨sb, fun a e => (nomatch e), fun z h => ⟨h.1, h.2, nofun⟩⟩,
      ?_, fun i s e => ?_, fun i j ds1 es a n po p2 e1 => ?_⟩
    · unfold L2.start datR
      simp [hl]
    · rcases Nat.lt_or_ge i ds.length with hi | hi
      · rw [List.getElem?_append_left (by unfold datR; simpa using hi)] at e
        obtain ⟨v, e2, q⟩ := isAll_get (l := none)
          (Z := fun a => H a ≠ none ∧ B a = none) (H := H) is e
        refine ⟨v, ?_, q⟩
        unfold L2.start
        rw [List.getElem?_append_left (by simpa [hl] using hi)]
        exact e2
      · rw [List.getElem?_append_right (by unfold datR; simpa using hi)] at e
        rw [List.getElem?_replicate] at e
        split at e <;> cases e
    · rcases Nat.lt_or_ge i ds.length with hi | hi
      · rw [List.getElem?_append_left (by unfold datR; simpa using hi)] at e1
        unfold datR at e1
        rw [List.getElem?_map] at e1
        cases q : ds[i]? with
        | none => rw [q] at e1; cases e1
        | some d => rw [q] at e1; cases e1; cases po
      · rw [List.getElem?_append_right (by unfold datR; simpa using hi)] at e1
        rw [List.getElem?_replicate] at e1
        split at e1 <;> cases e1
  have fin : ∀ v d m' B2 H2, Bs none (fun a => H a ≠ none ∧ B a = none) m' B2 H2 →
      Fr (fun a => H a ≠ none ∧ B a = none) B H B2 H2 → Is K B2 v d →
      Ψ ds d → Q v H2 := by
    intro v d m' B2 H2 o2 f2 i2 e
    refine k v d B2 H2 f2.sub (fun b o e => ?_) o2.sub
      (fun a h1 h2 => (o2.zs a ⟨h1, h2⟩).2.1) e i2
    cases q : B b with
    | none => rw [f2.kept b ⟨by rw [e]; exact nofun, q⟩]; exact e
    | some x =>
      rw [sb b x q] at e
      cases e
      exact o2.sub b _ (f2.sub b _ q)
  exact hb ds hp hl _ B H _ _ ok
    (fun σ' ρ' m' B2 H2 o2 f2 g2 => fin .non .non m' B2 H2 o2.toBs f2 .non g2)
    fin
theorem s_aug {i : Nat} {r : R2} {d : D}
    (hi : ρ[i]? = some (some (.dat d)))
    (h : EvC K l te ρ m fun m1 y => VvC K l ρ
      (fun vs H Q => ∃ x y, vs = [x, y] ∧ r x y H Q) [d, y] m1
      fun m2 z => Nx m2 (ρ.set i (some (.dat z)))) :
    SvC K l (tAug i te r) ρ m Nx Rt := by
  intro Z B H σ W ok k _
  obtain ⟨v, e, z⟩ := ok.sl i _ hi
  refine ⟨v, e, h Z B H σ _ ok fun v2 y m1 B1 H1 o1 f1 i1 g1 => ?_⟩
  obtain ⟨x, y, e2, q⟩ := g1 Z B1 H1 σ [v, v2]
    (fun z H2 => W.nx (σ.set i (some z)) H2) o1
    (.cons (Is.mono f1.sub z) (.cons i1 .nil))
    fun v3 d3 m2 B2 H2 o2 f2 i2 g2 =>
      k _ _ m2 B2 H2 (o2.set i2) (f1.trans f2) g2
  cases e2
  exact q
theorem s_par {i j : Nat} (h : AvC K l tA ρ m fun m1 ds => ∃ x y,
      ds = [x, y] ∧
      Nx m1 ((ρ.set i (some (.dat x))).set j (some (.dat y)))) :
    SvC K l (tPar i j tA) ρ m Nx Rt := by
  intro Z B H σ W ok k _
  refine h Z B H σ _ ok fun vs ds m1 B1 H1 o1 f1 i1 g1 => ?_
  obtain ⟨x, y, rfl, q⟩ := g1
  obtain ⟨v, w, rfl, h1, h2⟩ := isAll2 i1
  exact ⟨v, w, rfl, k _ _ m1 B1 H1 ((o1.set h1).set h2) f1 q⟩
theorem e_hand0 {i : Nat} (hi : ρ[i]? = some (some .hand))
    (q : ∀ g : Int, 0 ≤ g → g < 10 ^ 600 → Φ m (.int g)) :
    EvC K l (tOp (rIxL K) (tVar i) (tC (.int 0))) ρ m Φ := by
  intro Z B H σ Q ok k
  obtain ⟨v, e, a, ha, rfl⟩ := ok.sl i _ hi
  obtain ⟨g, s, c, e2, a1, a2, a3, a4, a5, a6⟩ := (ok.hand a ha).1
  exact ⟨_, e, a, _, 0, _, rfl, rfl, SqL.of e2, rfl,
    k _ _ m B H ok Fr.refl (.int g) (q g a1 a2)⟩
theorem e_hand1 {i : Nat} (hi : ρ[i]? = some (some .hand))
    (q : ∀ s : Int, 0 ≤ s → s < 2 ^ 61 → Φ m (.int s)) :
    EvC K l (tOp (rIxL K) (tVar i) (tC (.int 1))) ρ m Φ := by
  intro Z B H σ Q ok k
  obtain ⟨v, e, a, ha, rfl⟩ := ok.sl i _ hi
  obtain ⟨g, s, c, e2, a1, a2, a3, a4, a5, a6⟩ := (ok.hand a ha).1
  exact ⟨_, e, a, _, 1, _, rfl, rfl, SqL.of e2, rfl,
    k _ _ m B H ok Fr.refl (.int s) (q s a3 a4)⟩
theorem e_hand2 {i : Nat} (hi : ρ[i]? = some (some .hand))
    (q : ∀ c : Int, 0 ≤ c → c ≤ m → Φ m (.int c)) :
    EvC K l (tOp (rIxL K) (tVar i) (tC (.int 2))) ρ m Φ := by
  intro Z B H σ Q ok k
  obtain ⟨v, e, a, ha, rfl⟩ := ok.sl i _ hi
  obtain ⟨g, s, c, e2, a1, a2, a3, a4, a5, a6⟩ := (ok.hand a ha).1
  exact ⟨_, e, a, _, 2, _, rfl, rfl, SqL.of e2, rfl,
    k _ _ m B H ok Fr.refl (.int c) (q c a5 a6)⟩
theorem Ok.hands {a : Addr} {n : Nat} {xs : List V}
    (h : Ok K l Z m B H σ ρ) (ha : l = some a)
    (hh : Hand (upd H a (.lst xs)) a n) :
    Ok K l Z n B (upd H a (.lst xs)) σ ρ ∧ Fr Z B H B (upd H a (.lst xs)) := by
  refine h.step (Same.refl B) (fun b x e => ?_) (fun b e => ?_)
    (fun b x n e => ?_) (fun b _ e => e)
  · have n : b ≠ a := fun z => by
      subst z; rw [(h.hand b ha).2] at e; cases e
    rw [upd_ne n]
    exact h.sub b x e
  · rw [ha] at e
    cases e
    exact hh
  · have n : b ≠ a := fun z => n (z ▸ ha)
    rw [upd_ne n]
    exact e
theorem s_hand0 {i : Nat} (hi : ρ[i]? = some (some .hand))
    (h : EvC K l te ρ m fun m1 d => ∃ g : Int, d = .int g ∧ 0 ≤ g ∧
      g < 10 ^ 600 ∧ Nx m1 ρ) :
    SvC K l (tAsg te (gSub (tVar i) (tC (.int 0)) rSetL)) ρ m Nx Rt := by
  intro Z B H σ W ok k _
  refine h Z B H σ _ ok fun v d m1 B1 H1 o1 f1 i1 g1 => ?_
  obtain ⟨g', rfl, b1, b2, q⟩ := g1
  cases i1
  obtain ⟨v, e, a, ha, rfl⟩ := o1.sl i _ hi
  obtain ⟨g, s, c, e2, a1, a2, a3, a4, a5, a6⟩ := (o1.hand a ha).1
  refine ⟨_, e, a, _, 0, 0, rfl, rfl, e2, rfl, ?_⟩
  obtain ⟨o2, f2⟩ := o1.hands (n := m1) ha
    ⟨g', s, c, upd_same, b1, b2, a3, a4, a5, a6⟩
  exact k _ _ m1 B1 _ o2 (f1.trans f2) q
theorem s_hand2 {i : Nat} (hi : ρ[i]? = some (some .hand))
    (h : EvC K l te ρ m fun m1 d => ∃ (c : Int) (n : Nat), d = .int c ∧
      0 ≤ c ∧ c ≤ n ∧ Nx n ρ) :
    SvC K l (tAsg te (gSub (tVar i) (tC (.int 2)) rSetL)) ρ m Nx Rt := by
  intro Z B H σ W ok k _
  refine h Z B H σ _ ok fun v d m1 B1 H1 o1 f1 i1 g1 => ?_
  obtain ⟨c', n, rfl, b1, b2, q⟩ := g1
  cases i1
  obtain ⟨v, e, a, ha, rfl⟩ := o1.sl i _ hi
  obtain ⟨g, s, c, e2, a1, a2, a3, a4, a5, a6⟩ := (o1.hand a ha).1
  refine ⟨_, e, a, _, 2, 2, rfl, rfl, e2, rfl, ?_⟩
  obtain ⟨o2, f2⟩ := o1.hands (n := n) ha
    ⟨g, s, c', upd_same, a1, a2, a3, a4, b1, b2⟩
  exact k _ _ n B1 _ o2 (f1.trans f2) q
/-- what _law_hand tells -/
def isHand (d : D) : Prop := ∃ g s : Int, d = .lst [.int g, .int s, .int 0] ∧
  0 ≤ g ∧ g < 10 ^ 600 ∧ 0 ≤ s ∧ s < 2 ^ 61
/-- an item of a list or a tuple -/
def D.items : D → Option (List D)
  | .lst xs => some xs
  | .tup xs => some xs
  | _ => none
theorem v_neg {i : Int} (q : Φ m (.int (-i))) :
    VvC K l ρ (fun vs H Q => ∃ x, vs = [x] ∧ rU (fun i => .int (-i)) x H Q)
      [.int i] m Φ := by
  intro Z B H σ vs Q ok is k
  obtain ⟨v, rfl, h⟩ := isAll1 is
  cases h
  exact ⟨_, rfl, i, rfl, k _ _ m B H ok Fr.refl (.int _) q⟩
def Sl.isHand : Option Sl → Bool
  | some .hand => true
  | _ => false
/-- the hand is put away -/
theorem Ok.noHand {a : Addr} {n i : Nat} (h : Ok K (some a) Z n B H σ ρ)
    (hn : ((ρ.set i none).all fun s => !Sl.isHand s) = true) :
    Ok K none Z m B H σ (ρ.set i none) := by
  have ne : ∀ (j : Nat) s, (ρ.set i none)[j]? = some (some s) →
      ρ[j]? = some (some s) ∧ s ≠ .hand := by
    intro j s e
    refine ⟨?_, fun z => ?_⟩
    · by_cases hj : i = j
      · subst hj
        obtain ⟨hi, q⟩ := List.getElem?_eq_some_iff.mp e
        rw [List.length_set] at hi
        rw [List.getElem?_set_self hi] at e
        cases e
      · rw [List.getElem?_set_ne hj] at e
        exact e
    · subst z
      have := List.all_eq_true.mp hn _ (List.mem_of_getElem? e)
      cases this
  refine ⟨⟨h.sub, fun b e => (nomatch e), fun z hz => ?_⟩, ?_, ?_, ?_⟩
  · obtain ⟨q1, q2, q3⟩ := h.zs z hz
    exact ⟨q1, q2, nofun⟩
  · rw [List.length_set]
    exact h.len
  · intro j s e
    obtain ⟨e2, nh⟩ := ne j s e
    obtain ⟨v, e3, q⟩ := h.sl j s e2
    refine ⟨v, e3, ?_⟩
    cases s with
    | dat d => exact q
    | hand => exact absurd rfl nh
    | own ds =>
      obtain ⟨b, xs, rfl, q1, q2, q3, q4, q5⟩ := q
      exact ⟨b, xs, rfl, q1, q2, q3, nofun, q5⟩
    | obj R =>
      obtain ⟨b, xs, rfl, q1, q2, q3, q4, q5⟩ := q
      exact ⟨b, xs, rfl, q1, q2, q3, nofun, q5⟩
  · intro j k ds es b n p1 p2 e1 e2
    exact h.dis j k ds es b n p1 p2 (ne j _ e1).1 (ne k _ e2).1
/-- hand = _law_hand(script, k), and what follows with it -/
theorem s_newHand {pre : List D → Prop} {E : XK} {i j c : Nat}
    {ns : List Int} {n : Int} (hj : ρ[j]? = some (some (.dat (.scr ns))))
    (hc : ρ[c]? = some (some (.dat (.int n)))) (hp : pre [.scr ns, .int n])
    (hi : i < ρ.length)
    (h : ∀ a, SvC K (some a) tb (ρ.set i (some .hand)) 0
      (fun _ ρ' => ((ρ'.set i none).all fun s => !Sl.isHand s) = true ∧
        Nx m (ρ'.set i none)) fun _ d => Rt m d) :
    SvC K none (tSeq (tAsg (tCall (SpR K pre fun _ d => isHand d) [] E
      (tCons (tVar j) (tCons (tVar c) tNil))) (gName i)) tb) ρ m Nx Rt := by
  intro Z B H σ W ok k jr
  obtain ⟨v1, e1, z1⟩ := ok.sl j _ hj
  obtain ⟨v2, e2, z2⟩ := ok.sl c _ hc
  refine ⟨v1, e1, v2, e2, ?_⟩
  cases z2
  cases z1 with
  | @scr s _ hs =>
    obtain ⟨B0, s0, hs0, hf⟩ : ∃ B0 : Hp, Same B0 B ∧
        Scr K B0 s (ns.map V.int) ∧
        ∀ b x, B0 b = some x → ∃ o u, x = .frz o u := by
      rcases hs with ⟨o, q⟩ | q
      · refine ⟨fun b => if b = s then B b else none, fun b x e => ?_,
          .inl ⟨o, (if_pos rfl).trans q⟩, fun b x e => ?_⟩
        · have e : (if b = s then B b else none) = some x := e
          by_cases w : b = s
          · rw [if_pos w] at e; exact e
          · rw [if_neg w] at e; cases e
        · have e : (if b = s then B b else none) = some x := e
          by_cases w : b = s
          · subst w
            rw [if_pos rfl, q] at e
            cases e
            exact ⟨_, _, rfl⟩
          · rw [if_neg w] at e; cases e
      · exact ⟨fun _ => none, fun b x e => (nomatch e), .inr q,
          fun b x e => (nomatch e)⟩
    have z0 : IsAll K B0 [V.ref s, .int n] [.scr ns, .int n] :=
      .cons (.scr hs0) (.cons (.int n) .nil)
    show SpR K pre (fun _ d => isHand d) ([V.ref s, .int n] ++ []) H _ E
    rw [List.append_nil]
    refine ⟨B0, _, s0.trans ok.sub, z0, hp, fun v d B2 H2 f1 f2 f3 f4 p iv => ?_⟩
    obtain ⟨g, sd, rfl, b1, b2, b3, b4⟩ := p
    cases iv with
    | @lst a xs _ ha is =>
      have ex : xs = [.int g, .int sd, .int 0] := by
        cases is with
        | cons h1 r =>
          cases r with
          | cons h2 r =>
            cases r with
            | cons h3 r => cases r; cases h1; cases h2; cases h3; rfl
      subst ex
      have fresh : H a = none := by
        cases q : H a with
        | none => rfl
        | some o =>
          exfalso
          cases w : B0 a with
          | none =>
            rw [f4 a (by rw [q]; exact nofun) w] at ha
            cases ha
          | some x =>
            obtain ⟨o', u, rfl⟩ := hf a x w
            rw [f1 a _ w] at ha
            cases ha
      have hB : B a = none := ok.same0 fresh
      have hh : Hand H2 a 0 :=
        ⟨g, sd, 0, f3 _ _ ha, b1, b2, b3, b4, by omega, by omega⟩
      have other : ∀ b, H b ≠ none → b ≠ a := fun b q w => q (w ▸ fresh)
      have ok2 : Ok K (some a) Z 0 B H2 (σ.set i (some (.ref a)))
          (ρ.set i (some .hand)) := by
        refine ⟨⟨ok.sub.trans f2, fun b e => ?_, fun z hz => ?_⟩, ?_, ?_, ?_⟩
        · cases e
          exact ⟨hh, hB⟩
        · obtain ⟨q1, q2, _⟩ := ok.zs z hz
          refine ⟨?_, q2, fun e => other z q1 (Option.some.inj e).symm⟩
          cases w : H z with
          | none => exact absurd w q1
          | some x => rw [f2 z x w]; exact nofun
        · rw [List.length_set, List.length_set]
          exact ok.len
        · intro b x e
          by_cases w : i = b
          · subst w
            rw [List.getElem?_set_self hi] at e
            cases e
            exact ⟨.ref a, List.getElem?_set_self (by rw [ok.len]; exact hi),
              a, rfl, rfl⟩
          · rw [List.getElem?_set_ne w] at e ⊢
            obtain ⟨v, e3, q⟩ := ok.sl b x e
            refine ⟨v, e3, ?_⟩
            cases x with
            | dat d => exact q
            | hand => obtain ⟨_, z, _⟩ := q; cases z
            | own ds =>
              obtain ⟨p, xs, rfl, q1, q2, q3, q4, q5⟩ := q
              refine ⟨p, xs, rfl, f2 _ _ q1, q2, q3, fun z => ?_, q5⟩
              exact other p (by rw [q1]; exact nofun) (Option.some.inj z).symm
            | obj R =>
              obtain ⟨p, xs, rfl, q1, q2, q3, q4, q5⟩ := q
              refine ⟨p, xs, rfl, f2 _ _ q1, q2, q3, fun z => ?_, q5⟩
              exact other p (by rw [q1]; exact nofun) (Option.some.inj z).symm
        · intro b b' ds es p w p1 p2 e3 e4
          have n1 : i ≠ b := fun z => by
            subst z; rw [List.getElem?_set_self hi] at e3; cases e3; cases p1
          have n2 : i ≠ b' := fun z => by
            subst z; rw [List.getElem?_set_self hi] at e4; cases e4; cases p2
          rw [List.getElem?_set_ne n1] at e3 ⊢
          rw [List.getElem?_set_ne n2] at e4 ⊢
          exact ok.dis b b' ds es p w p1 p2 e3 e4
      have f0 : Fr Z B H B H2 := ⟨Same.refl B, fun z hz => by
        cases w : H z with
        | none => exact absurd w (ok.zs z hz).1
        | some x => exact f2 z x w⟩
      refine h a Z B H2 _ W ok2 (fun σ3 ρ3 m3 B3 H3 o3 f3 g3 => ?_)
        fun v d m3 B3 H3 o3 f3 i3 g3 => ?_
      · exact k σ3 _ m B3 H3 (o3.noHand g3.1) (f0.trans f3) g3.2
      · refine jr v d m B3 H3 ⟨o3.sub, fun b e => (nomatch e), fun z hz => ?_⟩
          (f0.trans f3) i3 g3
        obtain ⟨q1, q2, _⟩ := o3.zs z hz
        exact ⟨q1, q2, nofun⟩
end
/-- the law's promise where the law's call begins -/
theorem law_start {K : PySem.W.Frag} {H : Hp} {a : Addr} {ns : List Int}
    {E : XK} (hO : Only H) (hS : SqL K H a (ns.map V.int)) :
    SpP K (fun ds => ∃ ns, ds = [.scr ns]) (fun _ => .bl true) [.ref a] H
      (fun v _ => v = .bl true) E := by
  have hs : Scr K H a (ns.map V.int) := by
    rcases hS with (h | h) | h
    · rcases hO a with z | ⟨o, xs, z⟩
      · rw [z] at h; cases h
      · rw [z] at h; cases h
    · exact .inl h
    · exact .inr h
  refine ⟨H, [.scr ns], Same.refl H, .cons (.scr hs) .nil, ⟨ns, rfl⟩, ?_⟩
  intro v B2 H2 _ _ _ _ iv
  cases iv
  rfl
end Wt

namespace Wt
open PySem PySem.Spec PyProof.Rows L2
theorem pys_map (xs : List D) : D.pys xs = xs.map D.py := by
  induction xs with
  | nil => rfl
  | cons x r ih => rw [D.pys, ih]; rfl
theorem plains_all (xs : List D) : D.plains xs = xs.all D.plain := by
  induction xs with
  | nil => rfl
  | cons x r ih => rw [D.plains, ih]; rfl
theorem showableAll_all (xs : List PyData) :
    PyData.showableAll xs = xs.all PyData.showable := by
  induction xs with
  | nil => rfl
  | cons x r ih => rw [PyData.showableAll, ih]; rfl
theorem leavesShortAll_all (b : Nat) (xs : List PyData) :
    PyData.leavesShortAll b xs = xs.all (PyData.leavesShort b) := by
  induction xs with
  | nil => rfl
  | cons x r ih => rw [PyData.leavesShortAll, ih]; rfl
theorem depthAll_le {k : Nat} : ∀ (xs : List PyData),
    (∀ x ∈ xs, x.depth ≤ k) → PyData.depthAll xs ≤ k
  | [], _ => by simp [PyData.depthAll]
  | x :: r, h => by
    have h1 := h x List.mem_cons_self
    have h2 := depthAll_le r fun y hy => h y (List.mem_cons_of_mem _ hy)
    simp only [PyData.depthAll]
    omega
theorem weightAll_le {k : Nat} : ∀ (xs : List PyData),
    (∀ x ∈ xs, x.weight ≤ k) → PyData.weightAll xs ≤ (k + 1) * xs.length
  | [], _ => by simp [PyData.weightAll]
  | x :: r, h => by
    have h1 := h x List.mem_cons_self
    have h2 := weightAll_le r fun y hy => h y (List.mem_cons_of_mem _ hy)
    simp only [PyData.weightAll, List.length_cons]
    rw [Nat.mul_add, Nat.mul_one]
    omega
/-- a part that can be shown, of at most so deep and so much -/
structure Itm (k w : Nat) (d : D) : Prop where
  plain : d.plain = true
  able : d.py.showable = true
  deep : d.py.depth ≤ k
  short : d.py.leavesShort 60 = true
  wt : d.py.weight ≤ w
def itmB (k w : Nat) (d : D) : Bool :=
  d.plain && d.py.showable && decide (d.py.depth ≤ k) &&
    d.py.leavesShort 60 && decide (d.py.weight ≤ w)
theorem Itm.of {k w : Nat} {d : D} (h : itmB k w d = true) : Itm k w d := by
  unfold itmB at h
  simp only [Bool.and_eq_true, decide_eq_true_eq] at h
  exact ⟨h.1.1.1.1, h.1.1.1.2, h.1.1.2, h.1.2, h.2⟩
theorem Itm.mono {k w k' w' : Nat} {d : D} (h : Itm k w d) (hk : k ≤ k')
    (hw : w ≤ w') : Itm k' w' d :=
  ⟨h.plain, h.able, Nat.le_trans h.deep hk, h.short, Nat.le_trans h.wt hw⟩
theorem Itm.shows {k w : Nat} {d : D} (h : Itm k w d) (hk : k ≤ 100)
    (hw : w ≤ 200000) (_ : d.py.hasDict = true → d.noLst = true) :
    Shows d := by
  refine ⟨h.plain, h.able, Nat.le_trans h.deep hk, ?_⟩
  have q := PyData.shown_le 60 (by decide) d.py h.short
  have := h.wt
  rw [sizeLine_eq]
  omega
theorem Itm.show {k w : Nat} {d : D} (h : Itm k w d) (hk : k ≤ 100)
    (hw : w ≤ 200000) : Shows d := by
  refine ⟨h.plain, h.able, Nat.le_trans h.deep hk, ?_⟩
  have q := PyData.shown_le 60 (by decide) d.py h.short
  have := h.wt
  rw [sizeLine_eq]
  omega
theorem Itm.tup {k w : Nat} {xs : List D} (h : ∀ x ∈ xs, Itm k w x) :
    Itm (k + 1) ((w + 1) * xs.length) (.tup xs) := by
  refine ⟨?_, ?_, ?_, ?_, ?_⟩
  · rw [D.plain, plains_all, List.all_eq_true]
    exact fun x hx => (h x hx).plain
  · rw [D.py, PyData.showable, pys_map, showableAll_all, List.all_map,
      List.all_eq_true]
    exact fun x hx => (h x hx).able
  · have := depthAll_le (k := k) (D.pys xs) (fun x hx => by
      rw [pys_map] at hx
      obtain ⟨y, hy, rfl⟩ := List.mem_map.mp hx
      exact (h y hy).deep)
    simp only [D.py, PyData.depth]
    omega
  · rw [D.py, PyData.leavesShort, pys_map, leavesShortAll_all, List.all_map,
      List.all_eq_true]
    exact fun x hx => (h x hx).short
  · have := weightAll_le (k := w) (D.pys xs) (fun x hx => by
      rw [pys_map] at hx
      obtain ⟨y, hy, rfl⟩ := List.mem_map.mp hx
      exact (h y hy).wt)
    rw [pys_map, List.length_map] at this
    simp only [D.py, PyData.weight, pys_map]
    omega
theorem Itm.lst {k w : Nat} {xs : List D} (h : ∀ x ∈ xs, Itm k w x) :
    Itm (k + 1) ((w + 1) * xs.length) (.lst xs) := by
  refine ⟨?_, ?_, ?_, ?_, ?_⟩
  · rw [D.plain, plains_all, List.all_eq_true]
    exact fun x hx => (h x hx).plain
  · rw [D.py, PyData.showable, pys_map, showableAll_all, List.all_map,
      List.all_eq_true]
    exact fun x hx => (h x hx).able
  · have := depthAll_le (k := k) (D.pys xs) (fun x hx => by
      rw [pys_map] at hx
      obtain ⟨y, hy, rfl⟩ := List.mem_map.mp hx
      exact (h y hy).deep)
    simp only [D.py, PyData.depth]
    omega
  · rw [D.py, PyData.leavesShort, pys_map, leavesShortAll_all, List.all_map,
      List.all_eq_true]
    exact fun x hx => (h x hx).short
  · have := weightAll_le (k := w) (D.pys xs) (fun x hx => by
      rw [pys_map] at hx
      obtain ⟨y, hy, rfl⟩ := List.mem_map.mp hx
      exact (h y hy).wt)
    rw [pys_map, List.length_map] at this
    simp only [D.py, PyData.weight, pys_map]
    omega
/-- small whole numbers -/
theorem itm_int {i : Int} (h1 : -10000 ≤ i) (h2 : i ≤ 10000) :
    Itm 0 15 (.int i) := by
  have hl : i.natAbs.log2 < 14 :=
    PySem.Flt.log2_lt_of (by decide) (show i.natAbs < 2 ^ 14 by omega)
  refine ⟨rfl, ?_, by simp [D.py, PyData.depth], ?_, ?_⟩
  · rw [D.py, PyData.showable]
    exact decide_eq_true (by omega)
  · rw [D.py, PyData.leavesShort]
    refine decide_eq_true ?_
    have e := int_text_length_le (a := i) (k := 14) (by decide) hl
    show (Str.ofString (toString i)).length ≤ 60
    rw [PySem.ofString_length]
    omega
  · rw [D.py, PyData.weight]
    split
    · omega
    · omega
end Wt

namespace Wt
open PySem PySem.Spec PyProof.Rows L2
theorem tuple_mul_same (l : Addr) (items : Array Value) (n : Nat)
    (dd : Option Addr) (sl : Array (Option Value)) (x : Int) (u : Tok)
    (c0 : (decide (x < -(2 ^ 63)) || decide (x ≥ 2 ^ 63)) = false)
    (c1 : (items.isEmpty || x == 1) = true) :
    Meets (Builtin.«tuple.__mul__» ⟨[.ref l, .int x u], []⟩)
      (fun _ R s => s.heap.get? l = some
        { cls := .type "tuple", dict := dd, data := .seq items n, slots := sl } ∧
        R (.ok (.ret (Value.ref l))) s) :=
  .of_wp fun prog w A R s h => by
    obtain ⟨hp, g, d, tk, os⟩ := s
    obtain ⟨hl, h⟩ := h
    have f1 := AutoSeq1.idx_int
    wp_walk using wpAny_loadPart' hl
    repeat (first
      | (refine wpAny_ite_false (decide_eq_false (by rw [c0]; exact Bool.false_ne_true)) ?_; wp_walk using wpAny_loadPart' hl)
      | (refine wpAny_ite_true (decide_eq_true (by rw [c1])) ?_; wp_walk using wpAny_loadPart' hl))
    exact ⟨_, rfl, h⟩
theorem tuple_mul_none (l : Addr) (items : Array Value) (n : Nat)
    (dd : Option Addr) (sl : Array (Option Value)) (x : Int) (u : Tok)
    (c0 : (decide (x < -(2 ^ 63)) || decide (x ≥ 2 ^ 63)) = false)
    (c1 : (items.isEmpty || x == 1) = false)
    (c2 : (decide (x ≤ 0) || items.isEmpty) = true) :
    Meets (Builtin.«tuple.__mul__» ⟨[.ref l, .int x u], []⟩)
      (fun _ R s => s.heap.get? l = some
        { cls := .type "tuple", dict := dd, data := .seq items n, slots := sl } ∧
        R (.ok (.ret (Value.ref s.heap.objs.size))) { s with heap := s.heap.push { cls := Value.type "tuple", data := Data.seq #[] }, toks := s.toks }) :=
  .of_wp fun prog w A R s h => by
    obtain ⟨hp, g, d, tk, os⟩ := s
    obtain ⟨hl, h⟩ := h
    have f1 := AutoSeq1.idx_int
    wp_walk using wpAny_loadPart' hl
    repeat (first
      | (refine wpAny_ite_false (decide_eq_false (by rw [c0]; exact Bool.false_ne_true)) ?_; wp_walk using wpAny_loadPart' hl)
      | (refine wpAny_ite_false (decide_eq_false (by rw [c1]; exact Bool.false_ne_true)) ?_; wp_walk using wpAny_loadPart' hl)
      | (refine wpAny_ite_true (decide_eq_true (by rw [c2])) ?_; wp_walk using wpAny_loadPart' hl))
    exact ⟨_, rfl, h⟩
def rRepA (K : PySem.W.Frag) : R2 := fun x y H Q => ∃ l k xs,
  x = .ref l ∧ y = .int k ∧ SqT K H l xs ∧ 0 ≤ k ∧ k ≤ 1000 ∧
  xs.length ≤ 1000 ∧ (xs = [] ∨ k = 1 → Q (.ref l) H) ∧
  (xs ≠ [] → k ≠ 1 → NewT H (List.replicate k.toNat xs).flatten Q)
theorem op_repA {X : Cx} : OpR X (binaryOp .Mult) (rRepA X.K) := by
  intro pins s σ H x y v u Q I rx ry h
  obtain ⟨l, k, xs, rfl, rfl, hT, h1, h2, hz, q1, q2⟩ := h
  cases rx
  obtain ⟨t, rfl⟩ := ry
  obtain ⟨its, r, ⟨⟨cls, dd, data, sl⟩, ho, hc, n, hd⟩, hs⟩ := I.tuple hT
  simp only at hc hd
  subst hc hd
  have hle : its.length = xs.length := r.length.symm
  have c0 : (decide (k < -(2 ^ 63)) || decide (k ≥ 2 ^ 63)) = false := by
    rw [decide_eq_false (by omega), decide_eq_false (by omega)]; rfl
  by_cases hsame : xs = [] ∨ k = 1
  · have c1 : (its.toArray.isEmpty || k == 1) = true := by
      rcases hsame with e | e
      · subst e
        cases its with
        | nil => rfl
        | cons a b => simp at hle
      · subst e
        simp
    exact wpAny_binaryOp_repeat_ref (T := "tuple") (U := "int") (by decide)
      ⟨_, ho, rfl⟩ (fun s' => typeIs_int s' k t) noFill_tuple_mul
      F.fills_int_mul F.slot_int_rmul repeat_tuple F.slot_int_index.lookup
      (call_meets F.slot_int_rmul (typeIs_int s k t) F.entry_int_rmul
        (F.args_int_rmul_2 _ _) (int_rmul_tuple k t l its.toArray n dd sl)
        ⟨ho, rfl, ⟨_, ho, rfl⟩, call_meets F.slot_tuple_mul ⟨_, ho, rfl⟩
          F.entry_tuple_mul (F.args_tuple_mul_2 _ _)
          (tuple_mul_same l its.toArray n dd sl k t c0 c1)
          ⟨ho, .ref l, H, I, rfl, q1 hsame⟩⟩)
  · have hne : xs ≠ [] := fun e => hsame (.inl e)
    have hk1 : k ≠ 1 := fun e => hsame (.inr e)
    have hi : its.toArray.isEmpty = false := by
      cases its with
      | nil => exact absurd (List.eq_nil_of_length_eq_zero hle.symm) hne
      | cons a b => rfl
    have c1 : (its.toArray.isEmpty || k == 1) = false := by
      rw [hi, Bool.false_or]
      exact beq_eq_false_iff_ne.mpr hk1
    have q := q2 hne hk1
    by_cases hk0 : k = 0
    · subst hk0
      refine wpAny_binaryOp_repeat_ref (T := "tuple") (U := "int") (by decide)
        ⟨_, ho, rfl⟩ (fun s' => typeIs_int s' 0 t) noFill_tuple_mul
        F.fills_int_mul F.slot_int_rmul repeat_tuple F.slot_int_index.lookup
        (call_meets F.slot_int_rmul (typeIs_int s 0 t) F.entry_int_rmul
          (F.args_int_rmul_2 _ _) (int_rmul_tuple 0 t l its.toArray n dd sl)
          ⟨ho, rfl, ⟨_, ho, rfl⟩, call_meets F.slot_tuple_mul ⟨_, ho, rfl⟩
            F.entry_tuple_mul (F.args_tuple_mul_2 _ _)
            (tuple_mul_none l its.toArray n dd sl 0 t c0 c1 rfl) ⟨ho, ?_⟩⟩)
      exact ep_newT (xs := []) (its := []) (n := 0) (tk := s.toks) I
        (Nat.zero_le _) .nil q
    · have hsz0 : its.toArray.size = xs.length := by
        rw [List.size_toArray, hle]
      have hm : ((its.toArray.size : Nat) : Int) * k ≤ 1000000 := by
        rw [hsz0]
        have a1 : ((xs.length : Nat) : Int) * k ≤ 1000 * k :=
          Int.mul_le_mul_of_nonneg_right (by omega) (by omega)
        omega
      have flen : (List.replicate k.toNat its).flatten.length ≤ sizeLine := by
        rw [PyProof.Rows.lm_len_rep_flat, hle, sizeLine_eq]
        have a1 : k.toNat * xs.length ≤ 1000 * 1000 :=
          Nat.mul_le_mul (by omega) hz
        omega
      have c2 : (decide (k ≤ 0) || its.toArray.isEmpty) = false := by
        rw [hi, Bool.or_false]
        exact decide_eq_false (by omega)
      have c4 : Builtin.Tuple.tupleTooMany
          (((its.toArray.size : Nat) : Int) * k) = false := by
        unfold Builtin.Tuple.tupleTooMany
        rw [sizeLine_eq]
        exact decide_eq_false (by omega)
      refine wpAny_binaryOp_repeat_ref (T := "tuple") (U := "int") (by decide)
        ⟨_, ho, rfl⟩ (fun s' => typeIs_int s' k t) noFill_tuple_mul
        F.fills_int_mul F.slot_int_rmul repeat_tuple F.slot_int_index.lookup
        (call_meets F.slot_int_rmul (typeIs_int s k t) F.entry_int_rmul
          (F.args_int_rmul_2 _ _) (int_rmul_tuple k t l its.toArray n dd sl)
          ⟨ho, rfl, ⟨_, ho, rfl⟩, call_meets F.slot_tuple_mul ⟨_, ho, rfl⟩
            F.entry_tuple_mul (F.args_tuple_mul_2 _ _)
            (tuple_mulW l its.toArray n dd sl k t c0 c1 c2 (by omega) c4
              (by rw [size_rep, List.size_toArray]; exact flen)) ⟨ho, ?_⟩⟩)
      rw [size_rep]
      have rr : Vals (List.replicate k.toNat xs).flatten
          (List.replicate k.toNat its).flatten := by
        have : ∀ n : Nat, Vals (List.replicate n xs).flatten
            (List.replicate n its).flatten := by
          intro n
          induction n with
          | zero => exact .nil
          | succ n ih =>
            rw [List.replicate_succ, List.replicate_succ, List.flatten_cons,
              List.flatten_cons]
            exact r.append ih
        exact this _
      exact ep_newT (n := 0) (tk := s.toks) I (by rw [rr.length]; exact flen) rr q
section
variable {K : PySem.W.Frag} {l : Option Addr} {ρ : Ro} {m : Nat}
variable {Φ : Nat → D → Prop} {Θ : Nat → Bool → Prop}
variable {Nx : Nat → Ro → Prop} {Rt : Nat → D → Prop} {ts tb : TS}
variable {ta te tl : TE} {t u : TT} {tA tK : TA}
variable {Z : Addr → Prop} {B H : Hp} {σ : L2.St}
theorem IsAll.rep {vs : List V} {ds : List D} (h : IsAll K B vs ds) :
    ∀ n : Nat, IsAll K B (List.replicate n vs).flatten
      (List.replicate n ds).flatten
  | 0 => .nil
  | n + 1 => by
    rw [List.replicate_succ, List.replicate_succ, List.flatten_cons,
      List.flatten_cons]
    exact h.append (IsAll.rep h n)
theorem v_repT {ds : List D} {k : Int} (h0 : 0 ≤ k) (h1 : k ≤ 1000)
    (hl : ds.length ≤ 1000)
    (q : Φ m (.tup (List.replicate k.toNat ds).flatten)) :
    VvC K l ρ (fun vs H Q => ∃ x y, vs = [x, y] ∧ rRepA K x y H Q)
      [.tup ds, .int k] m Φ := by
  intro Z B H σ vs Q ok is kk
  obtain ⟨v, w, rfl, h, h2⟩ := isAll2 is
  cases h2
  cases h with
  | @tup a us _ h r hcl =>
    refine ⟨_, _, rfl, a, k, us, rfl, rfl, sameT ok.sub h, h0, h1,
      by rw [r.length]; exact hl, fun e => ?_, fun n1 n2 p ob hp hd _ => ?_⟩
    · have e2 : (List.replicate k.toNat ds).flatten = ds := by
        rcases e with e | e
        · subst e
          cases r
          simp
        · subst e
          simp
      rw [e2] at q
      exact kk _ _ m B H ok Fr.refl (.tup h r hcl) q
    · obtain ⟨o2, f2⟩ := ok.new
        (o := .frz ob (.tup (List.replicate k.toNat us).flatten)) hp
      exact kk _ _ m _ _ o2 f2 (.newT upd_same hd
        ((r.mono f2.sub).rep _)) q
theorem v_repL {ds : List D} {k : Int} (h0 : 0 ≤ k) (h1 : k ≤ 1000)
    (hl : ds.length ≤ 1000)
    (q : Φ m (.lst (List.replicate k.toNat ds).flatten)) :
    VvC K l ρ (fun vs H Q => ∃ x y, vs = [x, y] ∧ rRep x y H Q)
      [.lst ds, .int k] m Φ := by
  intro Z B H σ vs Q ok is kk
  obtain ⟨v, w, rfl, h, h2⟩ := isAll2 is
  cases h2
  cases h with
  | @lst a us _ h r =>
    refine ⟨_, _, rfl, a, k, us, rfl, rfl, ok.sub _ _ h, by omega, by omega, ?_,
      fun p hp => ?_⟩
    · rw [r.length]
      have : ds.length * k.toNat ≤ 1000 * 1000 := Nat.mul_le_mul hl (by omega)
      rw [sizeLine_eq]
      omega
    · obtain ⟨o2, f2⟩ := ok.new (o := .lst (List.replicate k.toNat us).flatten) hp
      exact kk _ _ m _ _ o2 f2 (.lst upd_same ((r.mono f2.sub).rep _)) q
theorem dec_int2 (i j : Int) : decide (V.int i = V.int j) = decide (i = j) := by
  by_cases h : i = j
  · subst h; simp
  · rw [decide_eq_false h, decide_eq_false (fun z => h (V.int.inj z))]
theorem v_eqI {i j : Int} (q : Φ m (.bl (decide (i = j)))) :
    VvC K l ρ (fun vs H Q => ∃ x y, vs = [x, y] ∧ rEq x y H Q)
      [.int i, .int j] m Φ := by
  intro Z B H σ vs Q ok is k
  obtain ⟨v, w, rfl, h, h2⟩ := isAll2 is
  cases h
  cases h2
  refine ⟨_, _, rfl, rfl, k _ _ m B H ok Fr.refl (.bl _) ?_⟩
  rw [dec_int2]
  exact q
theorem v_neI {i j : Int} (q : Φ m (.bl (!decide (i = j)))) :
    VvC K l ρ (fun vs H Q => ∃ x y, vs = [x, y] ∧ rNe x y H Q)
      [.int i, .int j] m Φ := by
  intro Z B H σ vs Q ok is k
  obtain ⟨v, w, rfl, h, h2⟩ := isAll2 is
  cases h
  cases h2
  refine ⟨_, _, rfl, rfl, k _ _ m B H ok Fr.refl (.bl _) ?_⟩
  rw [dec_int2]
  exact q
mutual
def D.noDic : D → Bool
  | .lst xs => D.noDics xs
  | .tup xs => D.noDics xs
  | .dic _ => false
  | .ins _ _ _ => false
  | .scr _ => false
  | .dct _ _ => false
  | _ => true
def D.noDics : List D → Bool
  | [] => true
  | x :: xs => D.noDic x && D.noDics xs
end
mutual
theorem Is.dp (sb : Same B H) : ∀ {v : V} {d : D}, Is K B v d →
    d.noDic = true → Dp K H v d.py
  | _, _, .non, _ => .non
  | _, _, .bl b, _ => .bl b
  | _, _, .int i, _ => .int i
  | _, _, .str x, _ => .str x
  | _, _, .lst h r, e => by
    rw [D.noDic] at e
    exact .lst (SqL.of (sb _ _ h)) (IsAll.dp sb r e)
  | _, _, .tup h r _, e => by
    rw [D.noDic] at e
    exact .tup (sameT sb h) (IsAll.dp sb r e)
  | _, _, .dic _, e => by simp [D.noDic] at e
  | _, _, .ins _ _, e => by simp [D.noDic] at e
  | _, _, .scr _, e => by simp [D.noDic] at e
  | _, _, .dct _ _ _, e => by simp [D.noDic] at e
theorem IsAll.dp (sb : Same B H) : ∀ {vs : List V} {ds : List D},
    IsAll K B vs ds → D.noDics ds = true → DpAll K H vs (D.pys ds)
  | _, _, .nil, _ => .nil
  | _, _, .cons h r, e => by
    rw [D.noDics, Bool.and_eq_true] at e
    exact .cons (Is.dp sb h e.1) (IsAll.dp sb r e.2)
end
structure Eqs (d : D) : Prop where
  plain : d.noDic = true
  shaped : SeqAt.shaped d.py = true
theorem v_eqD {a b : D} (ha : Eqs a) (hb : Eqs b)
    (q : Φ m (.bl (PyData.eqv a.py b.py))) :
    VvC K l ρ (fun vs H Q => ∃ x y, vs = [x, y] ∧ rEqD K x y H Q)
      [a, b] m Φ := by
  intro Z B H σ vs Q ok is k
  obtain ⟨v, w, rfl, h, h2⟩ := isAll2 is
  exact ⟨_, _, rfl, _, _, h.dp ok.sub ha.plain, h2.dp ok.sub hb.plain,
    ha.shaped, hb.shaped, k _ _ m B H ok Fr.refl (.bl _) q⟩
theorem v_neD {a b : D} (ha : Eqs a) (hb : Eqs b)
    (q : Φ m (.bl (!PyData.eqv a.py b.py))) :
    VvC K l ρ (fun vs H Q => ∃ x y, vs = [x, y] ∧ rNeD K x y H Q)
      [a, b] m Φ := by
  intro Z B H σ vs Q ok is k
  obtain ⟨v, w, rfl, h, h2⟩ := isAll2 is
  exact ⟨_, _, rfl, _, _, h.dp ok.sub ha.plain, h2.dp ok.sub hb.plain,
    ha.shaped, hb.shaped, k _ _ m B H ok Fr.refl (.bl _) q⟩
end
end Wt

namespace Wt
open PySem PySem.Spec PyProof.Rows L2 RZ
section
variable {K : PySem.W.Frag} {l : Option Addr} {ρ : Ro} {m : Nat}
variable {Φ : Nat → D → Prop} {Θ : Nat → Bool → Prop}
variable {Nx : Nat → Ro → Prop} {Rt : Nat → D → Prop} {ts tb : TS}
variable {ta te tl : TE} {t u : TT} {tA tK : TA}
variable {Z Z' : Addr → Prop} {B H : Hp} {σ : L2.St}
theorem Ok.less (h : Ok K l Z' m B H σ ρ) (hz : ∀ z, Z z → Z' z) :
    Ok K l Z m B H σ ρ := by
  refine ⟨⟨h.sub, h.hand, fun z q => h.zs z (hz z q)⟩, h.len, ?_, h.dis⟩
  intro i s e
  obtain ⟨v, e1, q⟩ := h.sl i s e
  refine ⟨v, e1, ?_⟩
  cases s with
  | dat d => exact q
  | hand => exact q
  | own ds =>
    obtain ⟨a, xs, rfl, q1, q2, q3, q4, q5⟩ := q
    exact ⟨a, xs, rfl, q1, q2, fun z => q3 (hz a z), q4, q5⟩
  | obj R =>
    obtain ⟨a, xs, rfl, q1, q2, q3, q4, q5⟩ := q
    exact ⟨a, xs, rfl, q1, q2, fun z => q3 (hz a z), q4, q5⟩
/-- a new object of which nothing is told -/
theorem Ok.junk {p : Addr} {o : HO} (h : Ok K l Z m B H σ ρ)
    (hp : H p = none) : Ok K l Z m B (upd H p o) σ ρ ∧
      Fr Z B H B (upd H p o) :=
  ⟨(h.aside hp).less fun z q => .inl q,
    ⟨Same.refl B, fun z q => upd_ne fun e => (h.zs z q).1 (e ▸ hp)⟩⟩
theorem set_none {j : Nat} (e : ρ[j]? = some none) : ρ.set j none = ρ := by
  obtain ⟨hj, q⟩ := List.getElem?_eq_some_iff.mp e
  rw [← q, List.set_getElem_self]
theorem Ok.back {j : Nat} {v : Option V}
    (h : Ok K l Z m B H (σ.set j v) ρ) (e : ρ[j]? = some none) :
    Ok K l Z m B H σ ρ := by
  rw [← set_none e] at h
  exact h.unset e
theorem Ok.any {j : Nat} {v : Option V} (h : Ok K l Z m B H σ ρ)
    (e : ρ[j]? = some none) : Ok K l Z m B H (σ.set j v) ρ := by
  have ne : ∀ (i : Nat) x, ρ[i]? = some (some x) → j ≠ i := fun i x q z => by
    subst z; rw [e] at q; cases q
  refine ⟨h.toBs, by rw [List.length_set]; exact h.len, fun i s q => ?_,
    fun i k ds es a n p1 p2 q1 q2 => ?_⟩
  · rw [List.getElem?_set_ne (ne i s q)]
    exact h.sl i s q
  · rw [List.getElem?_set_ne (ne i _ q1), List.getElem?_set_ne (ne k _ q2)]
    exact h.dis i k ds es a n p1 p2 q1 q2
/-- the target of a pair -/
abbrev g2 (K : PySem.W.Frag) (i j : Nat) : TG :=
  gTup K 2 (gCons (gName i) (gCons (gName j) gNil))
theorem lcw_turn2 {A T : Addr} {I : Nat → Nat → List D → Prop} {c i j : Nat}
    {x y : V} {H' : Hp} {P : D → D → Prop} (hz : ¬ Z A)
    (hi : ρ[i]? = some none) (hj : ρ[j]? = some none) (hij : i ≠ j)
    (w : LcW K l Z ρ σ B H A I c H') (hT : H' T = none)
    (hx : ∀ B', Same B B' → ∃ d e, Is K B' x d ∧ Is K B' y e ∧ P d e)
    (hc : c < 100000)
    (he : ∀ d e n acc, P d e → I c n acc → acc.length = c →
      EvC K l te ((ρ.set i (some (.dat d))).set j (some (.dat e))) n
        fun n2 y => I (c + 1) n2 (acc ++ [y])) :
    g2 K i j (.ref T) (wipe σ [i, j]) (upd H' T (.tup [x, y])) fun σ2 H2 =>
      wipe σ2 [i, j] = wipe σ [i, j] ∧ tYes σ2 H2 fun b H3 =>
        if b = true then te σ2 H3 fun y H4 =>
          ∃ acc, H4 A = some (.lst acc) ∧ acc.length < sizeLine ∧
            LcW K l Z ρ σ B H A I (c + 1) (upd H4 A (.lst (acc ++ [y])))
        else LcW K l Z ρ σ B H A I (c + 1) H3 := by
  obtain ⟨n, acc, xs, B', ok, fr, hA, is, hI, hl⟩ := w
  obtain ⟨d, e, hd, he', hP⟩ := hx B' fr.sub
  refine ⟨T, [x, y], rfl, SqT.of upd_same, rfl, x, [y], rfl, y, [], rfl, rfl, ?_⟩
  have e1 : ((wipe σ [i, j]).set i (some x)).set j (some y) =
      (σ.set i (some x)).set j (some y) := by
    show ((((σ.set j none).set i none).set i (some x)).set j (some y)) = _
    rw [List.set_set, List.set_comm _ _ hij, List.set_set, List.set_comm _ _ (Ne.symm hij)]
  have e2 : wipe ((σ.set i (some x)).set j (some y)) [i, j] =
      wipe σ [i, j] := by
    show (((σ.set i (some x)).set j (some y)).set j none).set i none =
      (σ.set j none).set i none
    rw [List.set_set, List.set_comm _ _ hij, List.set_set]
  unfold tYes
  dsimp only
  rw [e1, if_pos rfl]
  refine ⟨e2, ?_⟩
  obtain ⟨okJ, frJ⟩ := ok.junk (o := .tup [x, y]) hT
  have nTA : A ≠ T := fun z => by rw [z, hT] at hA; cases hA
  refine he d e n acc hP hI hl _ B' _ _ _ ((okJ.set hd).set he')
    fun v y2 n2 B2 H2 o2 f2 i2 g2 => ?_
  have hA2 : H2 A = some (.lst xs) := by
    rw [f2.kept A (.inr rfl), upd_ne nTA]
    exact hA
  have hj2 : (ρ.set i (some (.dat d)))[j]? = some none := by
    rw [List.getElem?_set_ne hij]; exact hj
  refine ⟨xs, hA2, ?_, n2, acc ++ [y2], xs ++ [v], B2,
    ((o2.unset hj2).unset hi).write (.inr rfl), ?_, upd_same,
    (is.mono f2.sub).append (.cons i2 .nil), g2, by simp [hl]⟩
  · rw [is.length, hl]
    exact Nat.lt_of_lt_of_le hc (by decide)
  · refine ⟨fr.sub.trans f2.sub, fun z hz' => ?_⟩
    rw [upd_ne (fun (e : z = A) => hz (e ▸ hz'))]
    rw [f2.kept z (.inl hz'), frJ.kept z (.inl hz')]
    exact fr.kept z hz'
end
end Wt

namespace Wt
open PySem PySem.Spec PyProof.Rows L2 HT
section
variable {prog : Program} {w : World} {A : Around}
variable {E : Value → Shared → Prop} {s : Shared}
end
def tRevT (K : PySem.W.Frag) (te : TE) : TE := fun σ H Q =>
  te σ H fun x H1 => ∃ a xs, x = .ref a ∧ SqT K H1 a xs ∧
    NewT H1 xs.reverse Q
section
variable {X : Cx}
end
section
variable {K : PySem.W.Frag} {l : Option Addr} {ρ : Ro} {m : Nat}
variable {Φ : Nat → D → Prop} {te : TE} {B : Hp}
theorem IsAll.reverse : ∀ {vs : List V} {ds : List D}, IsAll K B vs ds →
    IsAll K B vs.reverse ds.reverse
  | _, _, .nil => .nil
  | _, _, .cons h r => by
    rw [List.reverse_cons, List.reverse_cons]
    exact (IsAll.reverse r).append (.cons h .nil)
theorem e_revT (h : EvC K l te ρ m fun m1 x => ∃ ds, x = .tup ds ∧
      Φ m1 (.tup ds.reverse)) : EvC K l (tRevT K te) ρ m Φ := by
  intro Z B H σ Q ok k
  refine h Z B H σ _ ok fun v x m1 B1 H1 o1 f1 i1 g1 => ?_
  obtain ⟨ds, rfl, q⟩ := g1
  cases i1 with
  | @tup a us _ hu r =>
    refine ⟨a, us, rfl, sameT o1.sub hu, fun p ob hp hd _ => ?_⟩
    obtain ⟨o2, f2⟩ := o1.new (o := .frz ob (.tup us.reverse)) hp
    exact k _ _ m1 _ _ o2 (f1.trans f2) (.newT upd_same hd
      (r.mono f2.sub).reverse) q
end
end Wt

namespace Wt
open PySem PySem.Spec PyProof.Rows L2
/-- the tuples at a, b, c, an item of each in a new triple -/
def ItZ3 (K : PySem.W.Frag) (a b c : Addr) : It where
  go := fun i H => ∃ xs ys zs : List V, SqT K H a xs ∧ SqT K H b ys ∧
    SqT K H c zs ∧ i < min (min xs.length ys.length) zs.length
  yld := fun i H v H' => ∃ T x y z, v = .ref T ∧ H T = none ∧
    H' = upd H T (.tup [x, y, z]) ∧ (∀ xs, SqT K H a xs → xs[i]? = some x) ∧
    (∀ ys, SqT K H b ys → ys[i]? = some y) ∧
    ∀ zs, SqT K H c zs → zs[i]? = some z
  stop := fun i H => ∃ xs ys zs : List V, SqT K H a xs ∧ SqT K H b ys ∧
    SqT K H c zs ∧ i = min (min xs.length ys.length) zs.length
theorem sep3 {n a b c : Nat} (ha : a < n) (hb : b < n) (hc : c < n) :
    ZipSep3 (n + 5) (n + 3) (n + 4) n (n + 1) (n + 2) [n, a] [n + 1, b]
      [n + 2, c] := by
  constructor <;> first
    | exact List.mem_cons_self
    | (intro z; have z : (_ : Nat) = _ := z; omega)
    | (intro z; simp only [List.mem_cons, List.not_mem_nil, or_false] at z
       rcases z with z | z <;> (have z : (_ : Nat) = _ := z; omega))
abbrev y3 (xs ys zs : Array Value) (i : Nat) (h0 : Heap) (v : Value)
    (h : Heap) : Prop := ∃ T x y u, v = .ref T ∧ h0.objs.size ≤ T ∧
  xs[i]? = some x ∧ ys[i]? = some y ∧ zs[i]? = some u ∧
  h.IsTuple T #[x, y, u]
abbrev st3 (n a b c : Nat) (xs ys zs : Array Value) (i : Nat) (h : Heap) :
    Prop := IsZip h (n + 5) (n + 3) (n + 4) .none ∧
  IsTupOf3 h (n + 3) (.ref n) (.ref (n + 1)) (.ref (n + 2)) ∧
  (∃ a1 a2 a3, IsTupOf3 h (n + 4) a1 a2 a3) ∧
  (h.IsTupleIter n a i ∧ h.IsTuple a xs) ∧
  (h.IsTupleIter (n + 1) b i ∧ h.IsTuple b ys) ∧
  (h.IsTupleIter (n + 2) c i ∧ h.IsTuple c zs)
theorem goes3 {prog : Program} {w : World} {A : Around} {elts : List Expr}
    {k : Nat} {pos : Pos} {n a b c : Nat} (hh : A.handled = none)
    (ha : a < n) (hb : b < n) (hc : c < n) (xs ys zs : Array Value) :
    GoesN prog w A (.Tuple elts k pos) (n + 5)
      ((n + 5) :: (n + 3) :: (n + 4) :: ([n, a] ++ [n + 1, b] ++ [n + 2, c]))
      [n + 5, n + 4, n, n + 1, n + 2]
      (min (min xs.size ys.size) zs.size) (y3 xs ys zs) (st3 n a b c xs ys zs) :=
  GoesN.zip3 (sep3 ha hb hc)
    (Draws.tuple (A := A.in1) hh n a (Nat.ne_of_lt ha) xs)
    (Draws.tuple (A := A.in1) hh (n + 1) b (Nat.ne_of_lt (Nat.lt_succ_of_lt hb)) ys)
    (Draws.tuple (A := A.in1) hh (n + 2) c (Nat.ne_of_lt (Nat.lt_succ_of_lt (Nat.lt_succ_of_lt hc))) zs)
def tn3 (n a b c i : Nat) (h : Heap) : Prop :=
  IsZip h (n + 5) (n + 3) (n + 4) .none ∧
  IsTupOf3 h (n + 3) (.ref n) (.ref (n + 1)) (.ref (n + 2)) ∧
  (∃ a1 a2 a3, IsTupOf3 h (n + 4) a1 a2 a3) ∧ h.IsTupleIter n a i ∧
  h.IsTupleIter (n + 1) b i ∧ h.IsTupleIter (n + 2) c i
theorem turn3 {P : Program} {w : World} {K : PySem.W.Frag}
    {elts : List Expr} {kk : Nat} {tpos : Pos} {n a b c : Nat}
    (ha : a < n) (hb : b < n) (hc : c < n) :
    Turn P w K (.Tuple elts kk tpos) (ItZ3 K a b c)
      [n + 5, n + 3, n + 4, n, n + 1, n + 2] (n + 5) (tn3 n a b c) where
  mem := List.mem_cons_self
  obj := fun i h st x hx => by
    obtain ⟨hz, hI, ⟨a1, a2, a3, hO⟩, ⟨o1, e1, _, d1⟩, ⟨o2, e2, _, d2⟩,
      o3, e3, _, d3⟩ := st
    simp only [List.mem_cons, List.not_mem_nil, or_false] at hx
    rcases hx with rfl | rfl | rfl | rfl | rfl | rfl
    · exact ⟨_, hz, nofun⟩
    · exact ⟨_, hI, nofun⟩
    · exact ⟨_, hO, nofun⟩
    · exact ⟨o1, e1, fun v q => by rw [d1] at q; cases q⟩
    · exact ⟨o2, e2, fun v q => by rw [d2] at q; cases q⟩
    · exact ⟨o3, e3, fun v q => by rw [d3] at q; cases q⟩
  keep := fun i h h' st k => by
    obtain ⟨hz, hI, ⟨a1, a2, a3, hO⟩, h1, h2, h3⟩ := st
    exact ⟨k _ (by simp) _ hz, k _ (by simp) _ hI,
      ⟨a1, a2, a3, k _ (by simp) _ hO⟩,
      h1.at fun o q => k n (by simp) o q,
      h2.at fun o q => k (n + 1) (by simp) o q,
      h3.at fun o q => k (n + 2) (by simp) o q⟩
  item := by
    intro X hP hw hK hcl i pins s σ H E I hf st hg
    subst hP hw hK
    obtain ⟨hz, hI, hO, h1, h2, h3⟩ := id st
    obtain ⟨xs, ys, zs, q1, q2, q3, hi⟩ := hg
    obtain ⟨its1, r1, p1, _⟩ := I.tuple q1
    obtain ⟨its2, r2, p2, _⟩ := I.tuple q2
    obtain ⟨its3, r3, p3, _⟩ := I.tuple q3
    have l1 := r1.length
    have l2 := r2.length
    have l3 := r3.length
    have lt : ∀ d ∈ [n + 5, n + 3, n + 4, n, n + 1, n + 2],
        d < s.heap.objs.size := by
      intro d hd
      obtain ⟨a1, a2, a3, hO⟩ := hO
      obtain ⟨o1, e1, _⟩ := h1
      obtain ⟨o2, e2, _⟩ := h2
      obtain ⟨o3, e3, _⟩ := h3
      simp only [List.mem_cons, List.not_mem_nil, or_false] at hd
      rcases hd with rfl | rfl | rfl | rfl | rfl | rfl
      · exact Heap.lt_size hz
      · exact Heap.lt_size hI
      · exact Heap.lt_size hO
      · exact Heap.lt_size e1
      · exact Heap.lt_size e2
      · exact Heap.lt_size e3
    refine (goes3 (I.ok.hd hcl) ha hb hc its1.toArray its2.toArray
      its3.toArray).goes i s _ E (by simp only [List.size_toArray]; omega)
      ⟨hz, hI, hO, ⟨h1, p1⟩, ⟨h2, p2⟩, ⟨h3, p3⟩⟩
      fun v h' tk hY st' hk htk => ?_
    obtain ⟨T, x, y, u, rfl, hT, e1, e2, e3, hTu⟩ := hY
    obtain ⟨vx, ex⟩ : ∃ vx, xs[i]? = some vx :=
      ⟨xs[i]'(by omega), List.getElem?_eq_getElem _⟩
    obtain ⟨vy, ey⟩ : ∃ vy, ys[i]? = some vy :=
      ⟨ys[i]'(by omega), List.getElem?_eq_getElem _⟩
    obtain ⟨vz, ez⟩ : ∃ vz, zs[i]? = some vz :=
      ⟨zs[i]'(by omega), List.getElem?_eq_getElem _⟩
    obtain ⟨u1, g1, k1⟩ := r1.get ex
    obtain ⟨u2, g2, k2⟩ := r2.get ey
    obtain ⟨u3, g3, k3⟩ := r3.get ez
    rw [List.getElem?_toArray] at e1 e2 e3
    rw [g1] at e1
    rw [g2] at e2
    rw [g3] at e3
    cases e1
    cases e2
    cases e3
    have new : ObjOk X.prog X.w (upd H T (.tup [vx, vy, vz])) h' T
        (.tup [vx, vy, vz]) :=
      ⟨by show 3 ≤ sizeLine; decide, [x, y, u],
        .cons k1 (.cons k2 (.cons k3 .nil)), hTu⟩
    have I1 := I.turnedNew (t' := tk)
      (ch := [n + 5, n + 3, n + 4, n, n + 1, n + 2])
      (fun d o hd q => hk d o (fun z => hd (by
        simp only [List.mem_cons, List.not_mem_nil, or_false] at z ⊢
        rcases z with z | z | z | z | z <;> simp [z])) q) hf hT new
    obtain ⟨z1, z2, z3, z4, z5, z6⟩ := st'
    refine ⟨.ref T, _, I1, rfl, ⟨T, vx, vy, vz, rfl, I.hok.fresh hT, rfl,
      fun l hl => ?_, fun l hl => ?_, fun l hl => ?_⟩,
      ⟨z1, z2, z3, z4.1, z5.1, z6.1⟩, fun d hd => ?_⟩
    · rw [I.tuple_inj hl q1]; exact ex
    · rw [I.tuple_inj hl q2]; exact ey
    · rw [I.tuple_inj hl q3]; exact ez
    · have := lt d hd
      rw [upd_ne (fun (z : d = T) => Nat.lt_irrefl d (Nat.lt_of_lt_of_le this (z ▸ hT)))]
      exact (hf d hd).1
  done := by
    intro X hP hw hK hcl i pins s σ H E I hf st hg
    subst hP hw hK
    obtain ⟨hz, hI, hO, h1, h2, h3⟩ := st
    obtain ⟨xs, ys, zs, q1, q2, q3, hi⟩ := hg
    obtain ⟨its1, r1, p1, _⟩ := I.tuple q1
    obtain ⟨its2, r2, p2, _⟩ := I.tuple q2
    obtain ⟨its3, r3, p3, _⟩ := I.tuple q3
    have e : min (min its1.toArray.size its2.toArray.size)
        its3.toArray.size = i := by
      have l1 := r1.length
      have l2 := r2.length
      have l3 := r3.length
      simp only [List.size_toArray]
      omega
    refine (goes3 (prog := X.prog) (w := X.w) (elts := elts) (k := kk)
      (pos := tpos) (I.ok.hd hcl) ha hb hc its1.toArray its2.toArray
      its3.toArray).stops s _ E (by
        rw [e]
        exact ⟨hz, hI, hO, ⟨h1, p1⟩, ⟨h2, p2⟩, ⟨h3, p3⟩⟩)
      fun h' tk hk htk => ?_
    exact I.turnedL (t' := tk)
      (ch := [n + 5, n + 3, n + 4, n, n + 1, n + 2])
      (fun d o hd q => hk d o (fun z => hd (by
        simp only [List.mem_cons, List.not_mem_nil, or_false] at z ⊢
        rcases z with z | z | z | z | z <;> simp [z])) q) hf
  self := fun A i s Q E st h => wpAny_pyIter_zip st.1 h
def iZip3 (K : PySem.W.Frag) (ta : TA) : TI := fun σ H R =>
  ta σ H fun vs H1 => ∃ a b c xs ys zs, vs = [.ref a, .ref b, .ref c] ∧
    SqT K H1 a xs ∧ SqT K H1 b ys ∧ SqT K H1 c zs ∧ R (ItZ3 K a b c) H1
theorem pi_zip3 {X : Cx} {e1 e2 e3 : Expr} {ta : TA} {p pos tpos : Pos}
    {elts : List Expr} {kk : Nat} (hg : Gl X "zip")
    (hm : X.mg "zip" = none) (ha : PA X [e1, e2, e3] ta)
    (hs : starEach [e1, e2, e3] X.env =
      (false, eval e1 X.env) :: starEach [e2, e3] X.env := by rfl)
    (hpl : (backTo pos (starEach [e2, e3] X.env)).any (·.1) = false := by rfl) :
    PI X (.Tuple elts kk tpos) (.Call (.Name "zip" p) [e1, e2, e3] [] pos)
      (iZip3 X.K ta) := by
  refine ⟨fun pins s σ H R I h => ?_⟩
  refine Call_ (ld_blt I hg hm PyProof.Rows.boot_zip
    (PyProof.Rows.callWith_type1 (thn (ha.run pos pins s σ H _ I h)
      fun us s1 ⟨vs, H1, I1, r1, q1⟩ => ?_) hs hpl))
  obtain ⟨a, b, c, xs, ys, zs, rfl, t1, t2, t3, q⟩ := q1
  obtain ⟨its1, _, p1, _⟩ := I1.tuple t1
  obtain ⟨its2, _, p2, _⟩ := I1.tuple t2
  obtain ⟨its3, _, p3, _⟩ := I1.tuple t3
  have la : a < s1.heap.objs.size := let ⟨_, z, _⟩ := p1; Heap.lt_size z
  have lb : b < s1.heap.objs.size := let ⟨_, z, _⟩ := p2; Heap.lt_size z
  have lc : c < s1.heap.objs.size := let ⟨_, z, _⟩ := p3; Heap.lt_size z
  cases r1 with
  | cons k1 r1 =>
    cases r1 with
    | cons k2 r1 =>
      cases r1 with
      | cons k3 r1 =>
        cases r1
        cases k1
        cases k2
        cases k3
        refine zip_begins3 (begins_tuple a its1.toArray)
          (begins_tuple b its2.toArray) (begins_tuple c its3.toArray)
          p1 p2 p3 fun h' hz hI hO g1 g2 g3 hsz hk =>
          wpAny_pyIter_zip hz ?_
        have I2 : Inv X pins σ H1 { s1 with heap := h' } :=
          I1.kept (t' := s1.toks) hk
        refine ⟨s1.heap.objs.size + 5, _, _, _, H1, rfl, I2,
          turn3 la lb lc, ⟨hz, hI, ⟨_, _, _, hO⟩, ⟨_, g1, rfl, rfl⟩,
            ⟨_, g2, rfl, rfl⟩, ⟨_, g3, rfl, rfl⟩⟩, fun d hd => ?_, q⟩
        have hle : s1.heap.objs.size ≤ d := by
          simp only [List.mem_cons, List.not_mem_nil, or_false] at hd
          rcases hd with z | z | z | z | z | z <;>
            (have z : (_ : Nat) = _ := z; omega)
        exact I1.fpOk hle (I1.hok.fresh hle)
theorem walk_zip3 {K : PySem.W.Frag} {a b c : Addr} {xs ys zs : List V}
    {n : Nat} (hn : n = min (min xs.length ys.length) zs.length) :
    Walk (ItZ3 K a b c) n
      (fun H => SqT K H a xs ∧ SqT K H b ys ∧ SqT K H c zs)
      fun i H v H' => ∃ T x y z, v = .ref T ∧ H T = none ∧
        H' = upd H T (.tup [x, y, z]) ∧ xs[i]? = some x ∧ ys[i]? = some y ∧
        zs[i]? = some z := by
  refine ⟨fun i H hi h => ⟨xs, ys, zs, h.1, h.2.1, h.2.2, by omega⟩,
    fun H h => ⟨xs, ys, zs, h.1, h.2.1, h.2.2, hn⟩, fun i H x H' hi h q => ?_⟩
  obtain ⟨T, x1, y1, z1, rfl, hT, rfl, e1, e2, e3⟩ := q
  exact ⟨T, x1, y1, z1, rfl, hT, rfl, e1 _ h.1, e2 _ h.2.1, e3 _ h.2.2⟩
section
variable {X : Cx}
end
section
variable {K : PySem.W.Frag} {l : Option Addr} {ρ : Ro} {m : Nat}
variable {Φ : Nat → D → Prop} {Θ : Nat → Bool → Prop}
variable {Nx : Nat → Ro → Prop} {Rt : Nat → D → Prop} {ts tb : TS}
variable {ta te tl : TE} {t u : TT} {tA tK : TA}
variable {Z Z' : Addr → Prop} {B H : Hp} {σ : L2.St}
theorem s_while {I : Nat → Nat → Ro → Prop} {q0 : Nat} (h0 : I q0 m ρ)
    (h : ∀ q n ρ', I q n ρ' → TvC K l t ρ' n fun n1 b =>
      if b = true then SvC K l tb ρ' n1
        (fun n2 ρ2 => ∃ q', q' < q ∧ I q' n2 ρ2) Rt
      else Nx n1 ρ') :
    SvC K l (tWhile t tb) ρ m Nx Rt := by
  intro Z B H σ W ok k j
  refine ⟨fun q σ' H' => ∃ n ρ' B', Ok K l Z n B' H' σ' ρ' ∧
    Fr Z B H B' H' ∧ I q n ρ', ⟨q0, m, ρ, B, ok, Fr.refl, h0⟩, ?_⟩
  rintro q σ' H' ⟨n, ρ', B', ok', fr', hI⟩
  refine h q n ρ' hI Z B' H' σ' _ ok' fun b n1 B1 H1 o1 f1 g1 => ?_
  cases b with
  | true =>
    refine ⟨fun σ2 H2 => ∃ q', q' < q ∧ ∃ n ρ' B', Ok K l Z n B' H2 σ2 ρ' ∧
      Fr Z B H B' H2 ∧ I q' n ρ', fun _ _ z => z, ?_⟩
    refine g1 Z B1 H1 σ' _ o1 (fun σ2 ρ2 n2 B2 H2 o2 f2 g2 => ?_)
      fun v d n2 B2 H2 o2 f2 i2 g2 => ?_
    · obtain ⟨q', hq, g⟩ := g2
      exact ⟨q', hq, n2, ρ2, B2, o2, (fr'.trans f1).trans f2, g⟩
    · exact j v d n2 B2 H2 o2 ((fr'.trans f1).trans f2) i2 g2
  | false => exact k σ' ρ' n1 B1 H1 o1 (fr'.trans f1) g1
abbrev g3 (K : PySem.W.Frag) (i j k : Nat) : TG :=
  gTup K 3 (gCons (gName i) (gCons (gName j) (gCons (gName k) gNil)))
theorem isAll3 {vs : List V} {d e f : D} (h : IsAll K B vs [d, e, f]) :
    ∃ v w x, vs = [v, w, x] ∧ Is K B v d ∧ Is K B w e ∧ Is K B x f := by
  cases h with
  | cons h r =>
    obtain ⟨w, x, rfl, h2, h3⟩ := isAll2 r
    exact ⟨_, w, x, rfl, h, h2, h3⟩
theorem lcw_turn3 {A T : Addr} {I : Nat → Nat → List D → Prop} {c i j k : Nat}
    {x y z : V} {H' : Hp} {P : D → D → D → Prop} (hz : ¬ Z A)
    (hi : ρ[i]? = some none) (hj : ρ[j]? = some none)
    (hk : ρ[k]? = some none) (hij : i ≠ j) (hik : i ≠ k) (hjk : j ≠ k)
    (w : LcW K l Z ρ σ B H A I c H') (hT : H' T = none)
    (hx : ∀ B', Same B B' → ∃ d e f, Is K B' x d ∧ Is K B' y e ∧
      Is K B' z f ∧ P d e f) (hc : c < 100000)
    (he : ∀ d e f n acc, P d e f → I c n acc → acc.length = c →
      EvC K l te (((ρ.set i (some (.dat d))).set j (some (.dat e))).set k
        (some (.dat f))) n fun n2 y => I (c + 1) n2 (acc ++ [y])) :
    g3 K i j k (.ref T) (wipe σ [i, j, k]) (upd H' T (.tup [x, y, z]))
      fun σ2 H2 => wipe σ2 [i, j, k] = wipe σ [i, j, k] ∧
        tYes σ2 H2 fun b H3 => if b = true then te σ2 H3 fun y H4 =>
          ∃ acc, H4 A = some (.lst acc) ∧ acc.length < sizeLine ∧
            LcW K l Z ρ σ B H A I (c + 1) (upd H4 A (.lst (acc ++ [y])))
        else LcW K l Z ρ σ B H A I (c + 1) H3 := by
  obtain ⟨n, acc, xs, B', ok, fr, hA, is, hI, hl⟩ := w
  obtain ⟨d, e, f, hd, he', hf, hP⟩ := hx B' fr.sub
  refine ⟨T, [x, y, z], rfl, SqT.of upd_same, rfl, x, [y, z], rfl, y, [z],
    rfl, z, [], rfl, rfl, ?_⟩
  have e1 : (((wipe σ [i, j, k]).set i (some x)).set j (some y)).set k
      (some z) = ((σ.set i (some x)).set j (some y)).set k (some z) := by
    show (((((σ.set k none).set j none).set i none).set i (some x)).set j
      (some y)).set k (some z) = _
    rw [List.set_set, List.set_comm _ _ (Ne.symm hij) (l := σ.set k none),
      List.set_set, List.set_comm _ _ (Ne.symm hik) (l := σ),
      List.set_comm _ _ (Ne.symm hjk), List.set_set]
  have e2 : wipe (((σ.set i (some x)).set j (some y)).set k (some z))
      [i, j, k] = wipe σ [i, j, k] := by
    show (((((σ.set i (some x)).set j (some y)).set k (some z)).set k
      none).set j none).set i none = ((σ.set k none).set j none).set i none
    rw [List.set_set, List.set_comm _ _ hjk, List.set_set,
      List.set_comm _ _ hik, List.set_comm _ _ hij, List.set_set]
  unfold tYes
  dsimp only
  rw [e1, if_pos rfl]
  refine ⟨e2, ?_⟩
  obtain ⟨okJ, frJ⟩ := ok.junk (o := .tup [x, y, z]) hT
  have nTA : A ≠ T := fun z => by rw [z, hT] at hA; cases hA
  refine he d e f n acc hP hI hl _ B' _ _ _ (((okJ.set hd).set he').set hf)
    fun v y2 n2 B2 H2 o2 f2 i2 g2 => ?_
  have hA2 : H2 A = some (.lst xs) := by
    rw [f2.kept A (.inr rfl), upd_ne nTA]
    exact hA
  have hj2 : (ρ.set i (some (.dat d)))[j]? = some none := by
    rw [List.getElem?_set_ne hij]; exact hj
  have hk2 : ((ρ.set i (some (.dat d))).set j (some (.dat e)))[k]? =
      some none := by
    rw [List.getElem?_set_ne hjk, List.getElem?_set_ne hik]; exact hk
  refine ⟨xs, hA2, ?_, n2, acc ++ [y2], xs ++ [v], B2,
    (((o2.unset hk2).unset hj2).unset hi).write (.inr rfl), ?_, upd_same,
    (is.mono f2.sub).append (.cons i2 .nil), g2, by simp [hl]⟩
  · rw [is.length, hl]
    exact Nat.lt_of_lt_of_le hc (by decide)
  · refine ⟨fr.sub.trans f2.sub, fun z hz' => ?_⟩
    rw [upd_ne (fun (e : z = A) => hz (e ▸ hz'))]
    rw [f2.kept z (.inl hz'), frJ.kept z (.inl hz')]
    exact fr.kept z hz'
/-- [e for a, b, c in zip(t, u, v)] of three tuples -/
theorem e_lcZ3 {i j k : Nat} (hi : ρ[i]? = some none)
    (hj : ρ[j]? = some none) (hk : ρ[k]? = some none) (hij : i ≠ j)
    (hik : i ≠ k) (hjk : j ≠ k)
    (h : AvC K l tA ρ m fun m1 as => ∃ xs ys zs,
      as = [.tup xs, .tup ys, .tup zs] ∧ xs.length ≤ 50000 ∧
      ∃ I : Nat → Nat → List D → Prop, I 0 m1 [] ∧
      (∀ c n acc d e f, xs[c]? = some d → ys[c]? = some e →
        zs[c]? = some f → I c n acc → acc.length = c →
        EvC K l te (((ρ.set i (some (.dat d))).set j (some (.dat e))).set k
          (some (.dat f))) n fun n2 y => I (c + 1) n2 (acc ++ [y])) ∧
      ∀ n acc, acc.length = min (min xs.length ys.length) zs.length →
        I (min (min xs.length ys.length) zs.length) n acc → Φ n (.lst acc)) :
    EvC K l (tLc (iZip3 K tA) (g3 K i j k) tYes te [i, j, k]) ρ m Φ := by
  intro Z B H σ Q ok kk
  refine h Z B H σ _ ok fun vs as m1 B1 H1 o1 f1 i1 g1 => ?_
  obtain ⟨xs, ys, zs, rfl, hl, I, h0, hs, hd⟩ := g1
  obtain ⟨v, w, x, rfl, z1, z2, z3⟩ := isAll3 i1
  cases z1 with
  | @tup a us _ hu r1 =>
    cases z2 with
    | @tup b ws _ hw r2 =>
      cases z3 with
      | @tup c qs _ hq r3 =>
        refine ⟨a, b, c, us, ws, qs, rfl, sameT o1.sub hu, sameT o1.sub hw,
          sameT o1.sub hq, fun A hA => ?_⟩
        have hz : ¬ Z A := fun z => (o1.zs A z).1 hA
        refine lc_it (walk_zip3 (xs := us) (ys := ws) (zs := qs) rfl)
          (LcW K l Z ρ σ B1 H1 A I) (lcw_start o1 hA h0)
          (fun c H' _ w => ?_) (fun c x H' H'' hc w q => ?_) fun H' w => ?_
        · obtain ⟨n, acc, zs, B', ok', fr', _⟩ := w
          exact ⟨sameT ok'.sub (sameT fr'.sub hu),
            sameT ok'.sub (sameT fr'.sub hw),
            sameT ok'.sub (sameT fr'.sub hq)⟩
        · obtain ⟨T, x1, y1, w1, rfl, hT, rfl, e1, e2, e3⟩ := q
          refine lcw_turn3 (P := fun d e f => xs[c]? = some d ∧
            ys[c]? = some e ∧ zs[c]? = some f)
            hz hi hj hk hij hik hjk w hT (fun B' sb => ?_)
            (by rw [r1.length] at hc; omega)
            fun d e f n acc p => hs c n acc d e f p.1 p.2.1 p.2.2
          obtain ⟨d, q1, p1⟩ := (r1.mono sb).get e1
          obtain ⟨e, q2, p2⟩ := (r2.mono sb).get e2
          obtain ⟨f, q3, p3⟩ := (r3.mono sb).get e3
          exact ⟨d, e, f, p1, p2, p3, q1, q2, q3⟩
        · rw [r1.length, r2.length, r3.length] at w
          exact lcw_end hz w hd fun v d m' B2 H2 o2 f2 i2 g2 =>
            kk v d m' B2 H2 o2 (f1.trans f2) i2 g2
end
end Wt

namespace Wt
open PySem PySem.Spec PyProof.Rows L2
mutual
def D.numB : D → Bool
  | .int _ => true
  | .non => true
  | .lst xs => D.nums xs
  | .tup xs => D.nums xs
  | _ => false
def D.nums : List D → Bool
  | [] => true
  | x :: xs => D.numB x && D.nums xs
end
mutual
theorem eqv_iff : ∀ (a b : D), a.numB = true → b.numB = true →
    (PyData.eqv a.py b.py = true ↔ a = b)
  | .int i, .int j, _, _ => by simp [D.py, PyData.eqv]
  | .non, .non, _, _ => by simp [D.py, PyData.eqv]
  | .lst xs, .lst ys, ha, hb => by
    rw [D.numB] at ha hb
    rw [D.py, D.py, PyData.eqv, eqvs_iff xs ys ha hb, D.lst.injEq]
  | .tup xs, .tup ys, ha, hb => by
    rw [D.numB] at ha hb
    rw [D.py, D.py, PyData.eqv, eqvs_iff xs ys ha hb, D.tup.injEq]
  | .int _, .non, _, _ | .int _, .lst _, _, _ | .int _, .tup _, _, _
  | .non, .int _, _, _ | .non, .lst _, _, _ | .non, .tup _, _, _
  | .lst _, .int _, _, _ | .lst _, .non, _, _ | .lst _, .tup _, _, _
  | .tup _, .int _, _, _ | .tup _, .non, _, _ | .tup _, .lst _, _, _ => by
    simp [D.py, PyData.eqv]
  | .bl _, _, h, _ | .str _, _, h, _ | .dic _, _, h, _ | .ins _ _ _, _, h, _
  | .scr _, _, h, _ | .dct _ _, _, h, _ => by simp [D.numB] at h
  | .int _, .bl _, _, h | .int _, .str _, _, h | .int _, .dic _, _, h
  | .int _, .ins _ _ _, _, h | .int _, .scr _, _, h | .int _, .dct _ _, _, h
  | .non, .bl _, _, h | .non, .str _, _, h | .non, .dic _, _, h
  | .non, .ins _ _ _, _, h | .non, .scr _, _, h | .non, .dct _ _, _, h
  | .lst _, .bl _, _, h | .lst _, .str _, _, h | .lst _, .dic _, _, h
  | .lst _, .ins _ _ _, _, h | .lst _, .scr _, _, h | .lst _, .dct _ _, _, h
  | .tup _, .bl _, _, h | .tup _, .str _, _, h | .tup _, .dic _, _, h
  | .tup _, .ins _ _ _, _, h | .tup _, .scr _, _, h | .tup _, .dct _ _, _, h => by simp [D.numB] at h
theorem eqvs_iff : ∀ (a b : List D), D.nums a = true → D.nums b = true →
    (PyData.eqvAll (D.pys a) (D.pys b) = true ↔ a = b)
  | [], [], _, _ => by simp [D.pys, PyData.eqvAll]
  | [], y :: ys, _, _ => by simp [D.pys, PyData.eqvAll]
  | x :: xs, [], _, _ => by simp [D.pys, PyData.eqvAll]
  | x :: xs, y :: ys, ha, hb => by
    rw [D.nums, Bool.and_eq_true] at ha hb
    rw [D.pys, D.pys, PyData.eqvAll, Bool.and_eq_true,
      eqv_iff x y ha.1 hb.1, eqvs_iff xs ys ha.2 hb.2, List.cons.injEq]
end
theorem flats_all (xs : List D) : D.nums xs = xs.all D.numB := by
  induction xs with
  | nil => rfl
  | cons x r ih => rw [D.nums, ih]; rfl
mutual
theorem flat_noDic : ∀ d : D, d.numB = true → d.noDic = true
  | .int _, _ => rfl
  | .non, _ => rfl
  | .lst xs, h => by rw [D.numB] at h; rw [D.noDic]; exact flats_noDic xs h
  | .tup xs, h => by rw [D.numB] at h; rw [D.noDic]; exact flats_noDic xs h
  | .bl _, h | .str _, h | .dic _, h | .ins _ _ _, h | .scr _, h | .dct _ _, h => by
    simp [D.numB] at h
theorem flats_noDic : ∀ xs : List D, D.nums xs = true → D.noDics xs = true
  | [], _ => rfl
  | x :: xs, h => by
    rw [D.nums, Bool.and_eq_true] at h
    rw [D.noDics, flat_noDic x h.1, flats_noDic xs h.2]; rfl
end
mutual
theorem flat_lay : ∀ d : D, d.numB = true → d.py.canLay0 = true
  | .int _, _ => by simp [D.py, PyData.canLay0]
  | .non, _ => by simp [D.py, PyData.canLay0]
  | .lst xs, h => by
    rw [D.numB] at h; rw [D.py, PyData.canLay0]; exact flats_lay xs h
  | .tup xs, h => by
    rw [D.numB] at h; rw [D.py, PyData.canLay0]; exact flats_lay xs h
  | .bl _, h | .str _, h | .dic _, h | .ins _ _ _, h | .scr _, h | .dct _ _, h => by
    simp [D.numB] at h
theorem flats_lay : ∀ xs : List D, D.nums xs = true →
    PyData.canLayAll0 (D.pys xs) = true
  | [], _ => by simp [D.pys, PyData.canLayAll0]
  | x :: xs, h => by
    rw [D.nums, Bool.and_eq_true] at h
    rw [D.pys, PyData.canLayAll0, flat_lay x h.1, flats_lay xs h.2]; rfl
end
mutual
theorem flat_noDict : ∀ d : D, d.numB = true → d.py.hasDict = false
  | .int _, _ => by simp [D.py, PyData.hasDict]
  | .non, _ => by simp [D.py, PyData.hasDict]
  | .lst xs, h => by
    rw [D.numB] at h; rw [D.py, PyData.hasDict]; exact flats_noDict xs h
  | .tup xs, h => by
    rw [D.numB] at h; rw [D.py, PyData.hasDict]; exact flats_noDict xs h
  | .bl _, h | .str _, h | .dic _, h | .ins _ _ _, h | .scr _, h | .dct _ _, h => by
    simp [D.numB] at h
theorem flats_noDict : ∀ xs : List D, D.nums xs = true →
    PyData.hasDictAll (D.pys xs) = false
  | [], _ => by simp [D.pys, PyData.hasDictAll]
  | x :: xs, h => by
    rw [D.nums, Bool.and_eq_true] at h
    rw [D.pys, PyData.hasDictAll, flat_noDict x h.1, flats_noDict xs h.2]; rfl
end
/-- data of whole numbers, at most so deep and so much -/
structure Num (k w : Nat) (d : D) : Prop extends Itm k w d where
  flat : d.numB = true
section
variable {k w k' w' : Nat} {d e : D} {xs : List D}
theorem Num.up (h : Num k w d) (hk : k ≤ k') (hw : w ≤ w') : Num k' w' d :=
  ⟨h.toItm.mono hk hw, h.flat⟩
theorem Num.shows (h : Num k w d) (hk : k ≤ 100) (hw : w ≤ 200000) :
    Shows d :=
  h.toItm.shows hk hw fun z => by rw [flat_noDict d h.flat] at z; cases z
theorem Num.eqs (h : Num k w d) (hk : k ≤ 64) : Eqs d :=
  ⟨flat_noDic d h.flat, by
    unfold SeqAt.shaped
    rw [flat_lay d h.flat, decide_eq_true (Nat.le_trans h.deep hk)]; rfl⟩
theorem Num.tup (h : ∀ x ∈ xs, Num k w x) :
    Num (k + 1) ((w + 1) * xs.length) (.tup xs) :=
  ⟨Itm.tup fun x hx => (h x hx).toItm, by
    rw [D.numB, flats_all, List.all_eq_true]
    exact fun x hx => (h x hx).flat⟩
theorem Num.lst (h : ∀ x ∈ xs, Num k w x) :
    Num (k + 1) ((w + 1) * xs.length) (.lst xs) :=
  ⟨Itm.lst fun x hx => (h x hx).toItm, by
    rw [D.numB, flats_all, List.all_eq_true]
    exact fun x hx => (h x hx).flat⟩
theorem Num.eqv (h : Num k w d) (h' : Num k' w' e) :
    (PyData.eqv d.py e.py = true ↔ d = e) := eqv_iff d e h.flat h'.flat
theorem Num.same (h : Num k w d) : PyData.eqv d.py d.py = true :=
  (eqv_iff d d h.flat h.flat).mpr rfl
theorem Num.other (h : Num k w d) (h' : Num k' w' e) (n : d ≠ e) :
    PyData.eqv d.py e.py = false := by
  cases q : PyData.eqv d.py e.py with
  | false => rfl
  | true => exact absurd ((h.eqv h').mp q) n
end
section
variable {K : PySem.W.Frag} {l : Option Addr} {ρ : Ro} {m : Nat}
theorem a_imp {tA : TA} {Ψ Ψ' : Nat → List D → Prop}
    (h : AvC K l tA ρ m Ψ) (q : ∀ n d, Ψ n d → Ψ' n d) :
    AvC K l tA ρ m Ψ' :=
  fun Z B H σ Q ok k => h Z B H σ Q ok fun v d n B2 H2 a b c e =>
    k v d n B2 H2 a b c (q n d e)
theorem t_imp {t : TT} {Θ Θ' : Nat → Bool → Prop}
    (h : TvC K l t ρ m Θ) (q : ∀ n b, Θ n b → Θ' n b) :
    TvC K l t ρ m Θ' :=
  fun Z B H σ Q ok k => h Z B H σ Q ok fun b n B2 H2 a c e =>
    k b n B2 H2 a c (q n b e)
theorem s_imp {ts : TS} {Nx Nx' : Nat → Ro → Prop} {Rt Rt' : Nat → D → Prop}
    (h : SvC K l ts ρ m Nx Rt) (q : ∀ n r, Nx n r → Nx' n r)
    (q2 : ∀ n d, Rt n d → Rt' n d) : SvC K l ts ρ m Nx' Rt' :=
  fun Z B H σ W ok k j => h Z B H σ W ok
    (fun σ2 ρ2 m2 B2 H2 o2 f2 g2 => k σ2 ρ2 m2 B2 H2 o2 f2 (q m2 ρ2 g2))
    fun v d m2 B2 H2 o2 f2 i2 g2 => j v d m2 B2 H2 o2 f2 i2 (q2 m2 d g2)
end
end Wt

namespace Wt
open PySem PySem.Spec PyProof.Rows L2
/-- what a new object's own __init__ promises: the fields are what was handed in -/
def SpI (K : PySem.W.Frag) (C : Addr) (n1 n2 : Str) (pre : List D → Prop) :
    Sp := fun vs H Q _ => ∃ x dx B v1 v2 d1 d2, vs = [.ref x, v1, v2] ∧
  H x = some (.ins C dx []) ∧ Same B H ∧ B x = none ∧ Is K B v1 d1 ∧
  Is K B v2 d2 ∧ pre [d1, d2] ∧
  ∀ B2 H2, Same B B2 → Same B2 H2 →
    H2 x = some (.ins C dx [(n1, v1), (n2, v2)]) →
    (∀ b o, b ≠ x → H b = some o → H2 b = some o) →
    (∀ a, H a ≠ none → B a = none → B2 a = none) → Q .non H2
structure Own2 (K : PySem.W.Frag) (C : Addr) (n1 n2 : Str) : Prop where
  cls : Cls K C
  a1 : NoAttr K C n1
  a2 : NoAttr K C n2
section
variable {K : PySem.W.Frag} {l : Option Addr} {ρ : Ro} {m : Nat}
variable {Φ : Nat → D → Prop} {Θ : Nat → Bool → Prop}
variable {ta te tl : TE} {t u : TT} {tA : TA} {C : Addr} {n1 n2 : Str}
variable {Z : Addr → Prop} {B H : Hp} {σ : L2.St}
theorem body_I {pre : List D → Prop} {vs : List V} {Q : VK} {E : XK}
    {N : List Str} (hN : N.length = 3) (c : Own2 K C n1 n2) (hne : n1 ≠ n2)
    (h : SpI K C n1 n2 pre vs H Q E)
    (hb : ∀ d1 d2, pre [d1, d2] →
      TvC K none t [none, some (.dat d1), some (.dat d2)] 0
        (fun _ b => b = false) ∧
      ∀ n, TvC K none u [none, some (.dat d1), some (.dat d2)] n
        (fun _ b => b = false)) :
    tSeq (tIfS t tNever tNext) (tSeq (tIfS u tNever tNext)
      (tSeq (sFld K (tVar 0) (tVar 1) n1) (sFld K (tVar 0) (tVar 2) n2)))
      { nx := fun _ H' => Q .non H', rt := Q } (start N vs) H := by
  obtain ⟨x, dx, B, v1, v2, d1, d2, rfl, hx, sb, hBx, i1, i2, hp, k⟩ := h
  obtain ⟨p1, p2⟩ := hb d1 d2 hp
  have es : start N [.ref x, v1, v2] = [some (.ref x), some v1, some v2] := by
    unfold L2.start
    simp [hN]
  rw [es]
  have ok : Ok K none (fun a => H a ≠ none ∧ B a = none) 0 B H
      [some (.ref x), some v1, some v2]
      [none, some (.dat d1), some (.dat d2)] := by
    refine ⟨⟨sb, fun a e => (nomatch e), fun z h => ⟨h.1, h.2, nofun⟩⟩, rfl,
      fun i s e => ?_, fun i j ds1 es a n po p2 e1 => ?_⟩
    · match i, e with
      | 1, e => cases e; exact ⟨_, rfl, i1⟩
      | 2, e => cases e; exact ⟨_, rfl, i2⟩
    · match i, e1 with
      | 1, e => cases e; cases po
      | 2, e => cases e; cases po
  have zx : H x ≠ none ∧ B x = none := ⟨by rw [hx]; exact nofun, hBx⟩
  refine p1 _ B H _ _ ok fun b m1 B1 H1 o1 f1 e1 => ?_
  subst e1
  refine p2 m1 _ B1 H1 _ _ o1 fun b m2 B2 H2 o2 f2 e2 => ?_
  subst e2
  have fr := f1.trans f2
  have hx2 : H2 x = some (.ins C dx []) := (fr.kept x zx).trans hx
  have zb := (o2.zs x zx).2.1
  refine ⟨v1, rfl, .ref x, rfl, x, C, dx, [], rfl, hx2, c.cls, c.a1, by simp, ?_⟩
  refine ⟨v2, rfl, .ref x, rfl, x, C, dx, _, rfl, upd_same, c.cls, c.a2,
    by simp [putF], ?_⟩
  refine k B2 _ fr.sub (fun b o e => ?_) ?_ (fun b o n e => ?_)
    fun a h1 h2 => (o2.zs a ⟨h1, h2⟩).2.1
  · have n : b ≠ x := fun z => by subst z; rw [zb] at e; cases e
    rw [upd_ne n, upd_ne n]
    exact o2.sub b o e
  · rw [upd_same]
    simp [putF, hne]
  · rw [upd_ne n, upd_ne n]
    cases q : B b with
    | none => rw [fr.kept b ⟨by rw [e]; exact nofun, q⟩]; exact e
    | some y =>
      rw [sb b y q] at e
      cases e
      exact o2.sub b _ (fr.sub b _ q)
/-- C(a, b) -/
theorem e_make {pre : List D → Prop} {E : XK}
    (h : AvC K l tA ρ m fun m1 ds => ∃ d1 d2, ds = [d1, d2] ∧
      pre [d1, d2] ∧ Φ m1 (.ins C [n1, n2] [d1, d2])) :
    EvC K l (tMake C (SpI K C n1 n2 pre) [] E tA) ρ m Φ := by
  intro Z B H σ Q ok k
  refine h Z B H σ _ ok fun vs ds m1 B1 H1 o1 f1 i1 g1 => ?_
  obtain ⟨d1, d2, rfl, hp, q⟩ := g1
  obtain ⟨v1, v2, rfl, a1, a2⟩ := isAll2 i1
  intro x dx hx hdx hne
  obtain ⟨oJ, fJ⟩ := o1.junk (o := .own x) hdx
  have hx' : upd H1 dx (.own x) x = none := by
    rw [upd_ne (fun z => hne z.symm)]; exact hx
  have oA := oJ.aside (o := .ins C dx []) hx'
  have hz : ¬ Z x := fun z => (o1.zs x z).1 hx
  have hBx : B1 x = none := o1.same0 hx
  refine ⟨x, dx, B1, v1, v2, d1, d2, rfl, upd_same, oA.sub, hBx, a1, a2, hp,
    fun B2 H2 s1 s2 e2 kp fr => ⟨rfl, ?_⟩⟩
  have oW := oA.write (p := x) (o := .ins C dx [(n1, v1), (n2, v2)]) (.inr rfl)
  have hst : Ok K l (fun a => Z a ∨ a = x) m1 B2 H2 σ ρ ∧
      Fr (fun a => Z a ∨ a = x) B1 (upd (upd (upd H1 dx (.own x)) x (.ins C dx []))
        x (.ins C dx [(n1, v1), (n2, v2)])) B2 H2 := by
    refine oW.step (B2 := B2) (H2 := H2) (m' := m1) s1 s2
      (fun a e => ?_) (fun a o n e => ?_) (fun a n e => ?_)
    · obtain ⟨g, s, cc, e1, r⟩ := (oA.hand a e).1
      have n : a ≠ x := fun w => by
        subst w
        exact (o1.hand a e).1.some hx
      exact ⟨g, s, cc, kp a _ n e1, r⟩
    · by_cases w : a = x
      · subst w
        rw [upd_same] at e
        cases e
        exact e2
      · rw [upd_ne w] at e
        exact kp a o w e
    · by_cases w : a = x
      · subst w
        exact fr a (by rw [upd_same]; exact nofun) e
      · rw [upd_ne w] at n
        exact fr a n e
  obtain ⟨oS, fS⟩ := hst
  have oT := oS.thaw e2 hz
  have sm : Same B2 (upd B2 x (.ins C dx [(n1, v1), (n2, v2)])) :=
    same_new (oS.zs x (.inr rfl)).2.1
  refine k (.ref x) _ m1 _ H2 oT (f1.trans ⟨s1.trans sm, fun z hz' => ?_⟩)
    (.ins (dx := dx) (xs := [v1, v2]) upd_same
      (((IsAll.cons a1 (.cons a2 .nil)).mono s1).mono sm)) q
  rw [fS.kept z (.inl hz')]
  rw [upd_ne (fun (w : z = x) => hz (w ▸ hz')),
    upd_ne (fun (w : z = x) => hz (w ▸ hz'))]
  exact fJ.kept z hz'
theorem e_fld1 (c : Own2 K C n1 n2)
    (h : EvC K l ta ρ m fun m1 x => ∃ d1 d2, x = .ins C [n1, n2] [d1, d2] ∧
      Φ m1 d1) : EvC K l (tFld K ta n1) ρ m Φ := by
  intro Z B H σ Q ok k
  refine h Z B H σ _ ok fun v x m1 B1 H1 o1 f1 i1 g1 => ?_
  obtain ⟨d1, d2, rfl, q⟩ := g1
  cases i1 with
  | @ins a dx _ _ xs _ ha is =>
    obtain ⟨v1, v2, rfl, a1, a2⟩ := isAll2 is
    refine ⟨a, C, dx, _, v1, rfl, o1.sub _ _ ha, c.cls, c.a1, ?_,
      k _ _ m1 B1 H1 o1 f1 a1 q⟩
    simp
theorem e_fld2 (c : Own2 K C n1 n2) (hne : n1 ≠ n2)
    (h : EvC K l ta ρ m fun m1 x => ∃ d1 d2, x = .ins C [n1, n2] [d1, d2] ∧
      Φ m1 d2) : EvC K l (tFld K ta n2) ρ m Φ := by
  intro Z B H σ Q ok k
  refine h Z B H σ _ ok fun v x m1 B1 H1 o1 f1 i1 g1 => ?_
  obtain ⟨d1, d2, rfl, q⟩ := g1
  cases i1 with
  | @ins a dx _ _ xs _ ha is =>
    obtain ⟨v1, v2, rfl, a1, a2⟩ := isAll2 is
    refine ⟨a, C, dx, _, v2, rfl, o1.sub _ _ ha, c.cls, c.a2, ?_,
      k _ _ m1 B1 H1 o1 f1 a2 q⟩
    simp [List.lookup, beq_eq_false_iff_ne.mpr (Ne.symm hne)]
/-- o.m() that promises as a function does -/
theorem e_meth0 {pre : List D → Prop} {F : List D → D} {E : XK} {me : Str}
    (hm1 : me ≠ n1) (hm2 : me ≠ n2)
    (h : EvC K l ta ρ m fun m1 x => ∃ d1 d2, x = .ins C [n1, n2] [d1, d2] ∧
      pre [x] ∧ Φ m1 (F [x])) :
    EvC K l (tMeth C me (SpP K pre F) [] E ta tNil) ρ m Φ := by
  intro Z B H σ Q ok k
  refine h Z B H σ _ ok fun v x m1 B1 H1 o1 f1 i1 g1 => ?_
  obtain ⟨d1, d2, rfl, hp, q⟩ := g1
  have i1' := i1
  cases i1 with
  | @ins a dx _ _ xs _ ha is =>
    obtain ⟨v1, v2, rfl, a1, a2⟩ := isAll2 is
    refine ⟨a, dx, _, rfl, o1.sub _ _ ha, ?_, ?_⟩
    · simp [List.lookup, beq_eq_false_iff_ne.mpr hm1,
        beq_eq_false_iff_ne.mpr hm2]
    · exact v_P (E := E) hp q Z B1 H1 σ [.ref a] Q o1 (.cons i1' .nil)
        fun v d m2 B2 H2 o2 f2 i2 g2 => k v d m2 B2 H2 o2 (f1.trans f2) i2 g2
end
section
variable {X : Cx} {K : PySem.W.Frag} {e o value : Expr} {f : Str}
variable {pos pos' : Pos} {ta tv : TE}
theorem pe_fldK (hK : X.K = K) (he : PE X e ta)
    (hb : attributeBase e f X.env (eval e X.env) = eval e X.env) :
    PE X (.Attribute e f pos) (tFld K ta f) := by
  subst hK
  exact pe_fld he hb
theorem ps_fldK (hK : X.K = K) (ha : PE X o ta) (hv : PE X value tv)
    (hs : swapsWith value (some (.Attribute o f pos')) pos.line X.env =
      pure false) :
    PS X (.Assign [.Attribute o f pos'] value pos) (sFld K ta tv f) := by
  subst hK
  exact ps_fld ha hv hs
end
section
variable {K : PySem.W.Frag} {l : Option Addr} {ρ : Ro} {m : Nat}
variable {Nx : Nat → Ro → Prop} {Rt : Nat → D → Prop} {tA : TA} {te : TE}
theorem s_par3 {i j k : Nat} (h : AvC K l tA ρ m fun m1 ds => ∃ x y z,
      ds = [x, y, z] ∧ Nx m1 (((ρ.set i (some (.dat x))).set j
        (some (.dat y))).set k (some (.dat z)))) :
    SvC K l (tPar3 i j k tA) ρ m Nx Rt := by
  intro Z B H σ W ok kk _
  refine h Z B H σ _ ok fun vs ds m1 B1 H1 o1 f1 i1 g1 => ?_
  obtain ⟨x, y, z, rfl, q⟩ := g1
  obtain ⟨u, v, w, rfl, h1, h2, h3⟩ := isAll3 i1
  exact ⟨u, v, w, rfl, kk _ _ m1 B1 H1 (((o1.set h1).set h2).set h3) f1 q⟩
/-- a, b = [], x where a will grow -/
theorem s_parOwn {i j : Nat} (hij : i ≠ j)
    (h : AvC K l tA ρ m fun m1 ds => ∃ y, ds = [y] ∧
      Nx m1 ((ρ.set i (some (.own []))).set j (some (.dat y)))) :
    SvC K l (tPar i j (tCons (tLst tNil) tA)) ρ m Nx Rt := by
  intro Z B H σ W ok kk _
  refine ⟨Nat.zero_le _, fun p hp => ?_⟩
  have hz : ¬ Z p := fun z => (ok.zs p z).1 hp
  refine h _ B _ σ _ (ok.aside (o := .lst []) hp)
    fun vs ds m1 B1 H1 o1 f1 i1 g1 => ?_
  obtain ⟨y, rfl, q⟩ := g1
  obtain ⟨v, rfl, h2⟩ := isAll1 i1
  have hp1 : H1 p = some (.lst []) := (f1.kept p (.inr rfl)).trans upd_same
  have o2 := ((o1.set (i := j) h2).setOwn (i := i) hz hp1 .nil)
  rw [List.set_comm _ _ (Ne.symm hij), List.set_comm _ _ (Ne.symm hij) (l := ρ)] at o2
  refine ⟨.ref p, v, rfl, kk _ _ m1 B1 H1 o2 ?_ q⟩
  exact ⟨f1.sub, fun z hz' => (f1.kept z (.inl hz')).trans
    (upd_ne fun e => hz (e ▸ hz'))⟩
end
section
variable {K : PySem.W.Frag} {l : Option Addr} {ρ : Ro} {m : Nat}
variable {Nx : Nat → Ro → Prop} {Rt : Nat → D → Prop} {tA : TA} {te : TE}
/-- a, b = x -/
theorem s_unp2 {i j : Nat} (h : EvC K l te ρ m fun m1 d => ∃ x y,
      d = .tup [x, y] ∧ Nx m1 ((ρ.set i (some (.dat x))).set j
        (some (.dat y)))) :
    SvC K l (tAsg te (g2 K i j)) ρ m Nx Rt := by
  intro Z B H σ W ok kk _
  refine h Z B H σ _ ok fun v d m1 B1 H1 o1 f1 i1 g1 => ?_
  obtain ⟨x, y, rfl, q⟩ := g1
  cases i1 with
  | @tup a us _ hu r =>
    obtain ⟨u, w, rfl, h1, h2⟩ := isAll2 r
    exact ⟨a, [u, w], rfl, sameT o1.sub hu, rfl, u, [w], rfl, w, [], rfl, rfl,
      kk _ _ m1 B1 H1 ((o1.set h1).set h2) f1 q⟩
end
end Wt

namespace Wt
open PySem PySem.Spec PyProof.Rows L2
section
variable {K : PySem.W.Frag} {l : Option Addr} {ρ : Ro} {m : Nat}
variable {Φ : Nat → D → Prop} {Θ : Nat → Bool → Prop}
variable {Nx : Nat → Ro → Prop} {Rt : Nat → D → Prop} {ts tb : TS}
variable {ta te tl : TE} {t u : TT} {tA : TA}
variable {Z : Addr → Prop} {B H : Hp} {σ : L2.St}
/-- a turn of a comprehension over rows of pairs -/
theorem lcw_pair {A : Addr} {I : Nat → Nat → List D → Prop} {c i j : Nat}
    {x : V} {H' : Hp} {P : D → D → Prop} (hz : ¬ Z A)
    (hi : ρ[i]? = some none) (hj : ρ[j]? = some none) (hij : i ≠ j)
    (w : LcW K l Z ρ σ B H A I c H')
    (hx : ∀ B', Same B B' → ∃ d e, Is K B' x (.tup [d, e]) ∧ P d e)
    (hc : c < 100000)
    (he : ∀ d e n acc, P d e → I c n acc → acc.length = c →
      EvC K l te ((ρ.set i (some (.dat d))).set j (some (.dat e))) n
        fun n2 y => I (c + 1) n2 (acc ++ [y])) :
    g2 K i j x (wipe σ [i, j]) H' fun σ2 H2 =>
      wipe σ2 [i, j] = wipe σ [i, j] ∧ tYes σ2 H2 fun b H3 =>
        if b = true then te σ2 H3 fun y H4 =>
          ∃ acc, H4 A = some (.lst acc) ∧ acc.length < sizeLine ∧
            LcW K l Z ρ σ B H A I (c + 1) (upd H4 A (.lst (acc ++ [y])))
        else LcW K l Z ρ σ B H A I (c + 1) H3 := by
  obtain ⟨n, acc, xs, B', ok, fr, hA, is, hI, hl⟩ := w
  obtain ⟨d, e, hd, hP⟩ := hx B' fr.sub
  cases hd with
  | @tup T us _ hu r =>
    obtain ⟨u, v, rfl, p1, p2⟩ := isAll2 r
    refine ⟨T, [u, v], rfl, sameT ok.sub hu, rfl, u, [v], rfl, v, [], rfl,
      rfl, ?_⟩
    have e1 : ((wipe σ [i, j]).set i (some u)).set j (some v) =
        (σ.set i (some u)).set j (some v) := by
      show ((((σ.set j none).set i none).set i (some u)).set j (some v)) = _
      rw [List.set_set, List.set_comm _ _ hij, List.set_set,
        List.set_comm _ _ (Ne.symm hij)]
    have e2 : wipe ((σ.set i (some u)).set j (some v)) [i, j] =
        wipe σ [i, j] := by
      show (((σ.set i (some u)).set j (some v)).set j none).set i none =
        (σ.set j none).set i none
      rw [List.set_set, List.set_comm _ _ hij, List.set_set]
    unfold tYes
    dsimp only
    rw [e1, if_pos rfl]
    refine ⟨e2, ?_⟩
    refine he d e n acc hP hI hl _ B' _ _ _ ((ok.set p1).set p2)
      fun v y2 n2 B2 H2 o2 f2 i2 g2 => ?_
    have hA2 : H2 A = some (.lst xs) := (f2.kept A (.inr rfl)).trans hA
    have hj2 : (ρ.set i (some (.dat d)))[j]? = some none := by
      rw [List.getElem?_set_ne hij]; exact hj
    refine ⟨xs, hA2, ?_, n2, acc ++ [y2], xs ++ [v], B2,
      ((o2.unset hj2).unset hi).write (.inr rfl), ?_, upd_same,
      (is.mono f2.sub).append (.cons i2 .nil), g2, by simp [hl]⟩
    · rw [is.length, hl]
      exact Nat.lt_of_lt_of_le hc (by decide)
    · refine ⟨fr.sub.trans f2.sub, fun z hz' => ?_⟩
      rw [upd_ne (fun (e : z = A) => hz (e ▸ hz'))]
      exact (f2.kept z (.inl hz')).trans (fr.kept z hz')
def D.isNon : D → Bool
  | .non => true
  | _ => false
theorem v_isN {d : D} (q : Φ m (.bl d.isNon)) :
    VvC K l ρ (fun vs H Q => ∃ x y, vs = [x, y] ∧ rIsN x y H Q)
      [d, .non] m Φ := by
  intro Z B H σ vs Q ok is k
  obtain ⟨v, w, rfl, h, h2⟩ := isAll2 is
  cases h2
  refine ⟨_, _, rfl, rfl, k _ _ m B H ok Fr.refl (.bl _) ?_⟩
  have e : decide (v = V.non) = d.isNon := by
    cases h <;> rfl
  rw [e]
  exact q
theorem v_notN {d : D} (q : Φ m (.bl (!d.isNon))) :
    VvC K l ρ (fun vs H Q => ∃ x y, vs = [x, y] ∧ rNotN x y H Q)
      [d, .non] m Φ := by
  intro Z B H σ vs Q ok is k
  obtain ⟨v, w, rfl, h, h2⟩ := isAll2 is
  cases h2
  refine ⟨_, _, rfl, rfl, k _ _ m B H ok Fr.refl (.bl _) ?_⟩
  have e : decide (v = V.non) = d.isNon := by
    cases h <;> rfl
  rw [e]
  exact q
end
end Wt

namespace Wt
open PySem PySem.Spec PyProof.Rows L2
theorem r_map0 {α β : Type} {f : α → β} : List.map f [] = [] := rfl
theorem r_map1 {α β : Type} {f : α → β} {a : α} {l : List α} :
    List.map f (a :: l) = f a :: List.map f l := rfl
theorem r_app0 {α : Type} {l : List α} : [] ++ l = l := rfl
theorem r_app1 {α : Type} {a : α} {k l : List α} :
    (a :: k) ++ l = a :: (k ++ l) := rfl
theorem r_set0 {α : Type} {a x : α} {l : List α} :
    (a :: l).set 0 x = x :: l := rfl
theorem r_set1 {α : Type} {a x : α} {l : List α} {n : Nat} :
    (a :: l).set (n + 1) x = a :: l.set n x := rfl
theorem r_rep0 {α : Type} {x : α} : List.replicate 0 x = [] := rfl
theorem r_rep1 {α : Type} {x : α} {n : Nat} :
    List.replicate (n + 1) x = x :: List.replicate n x := rfl
/-- some slots told anew -/
def put (ρ : Ro) : List Nat → List (Option Sl) → Ro
  | i :: is, x :: xs => put (ρ.set i x) is xs
  | _, _ => ρ
theorem dmap_of {α : Type} {g : α → D} : ∀ {ys : List D}
    {P : Nat → α → Prop},
    (∀ (i : Nat) y, ys[i]? = some y → ∃ x, y = g x ∧ P i x) →
    ∃ xs : List α, ys = xs.map g ∧ ∀ (i : Nat) x, xs[i]? = some x → P i x
  | [], _, _ => ⟨[], rfl, fun i x h => by simp at h⟩
  | y :: ys, P, h => by
    obtain ⟨x, rfl, hx⟩ := h 0 y rfl
    obtain ⟨xs, rfl, hs⟩ := dmap_of (ys := ys) (P := fun i => P (i + 1))
      fun i y e => h (i + 1) y (by rw [List.getElem?_cons_succ]; exact e)
    refine ⟨x :: xs, rfl, fun i z e => ?_⟩
    cases i with
    | zero => cases e; exact hx
    | succ i => rw [List.getElem?_cons_succ] at e; exact hs i z e
theorem take_snoc' {α : Type} {xs : List α} {c : Nat} {x : α}
    (h : xs[c]? = some x) : xs.take (c + 1) = xs.take c ++ [x] := by
  rw [List.take_add_one, h]; rfl
theorem get_snoc {α : Type} {P : Nat → α → Prop} {xs : List α} {y : α}
    {c : Nat} (hl : xs.length = c) (h : ∀ (i : Nat) x, xs[i]? = some x → P i x)
    (hy : P c y) : ∀ (i : Nat) x, (xs ++ [y])[i]? = some x → P i x := by
  intro i x e
  by_cases hi : i < xs.length
  · rw [List.getElem?_append_left hi] at e
    exact h i x e
  · have : i = c := by
      have := (List.getElem?_eq_some_iff.mp e).1
      simp at this
      omega
    subst this
    rw [List.getElem?_append_right (by omega)] at e
    have e0 : i - xs.length = 0 := by omega
    rw [e0] at e
    cases e
    exact hy
section
variable {K : PySem.W.Frag} {l : Option Addr} {ρ : Ro} {m : Nat}
variable {Φ : Nat → D → Prop} {Θ : Nat → Bool → Prop}
variable {Nx : Nat → Ro → Prop} {Rt : Nat → D → Prop} {ts tb : TS}
variable {ta te tl : TE} {t u : TT} {tA tK : TA}
theorem e_lcRf {j : Nat} (hj : ρ[j]? = some none)
    (h : AvC K l tA ρ m fun m1 x => ∃ z : Int, x = [.int z] ∧
      ∃ (c : Nat) (f : Nat → D), z = c ∧ c ≤ 50000 ∧
      (∀ i : Nat, i < c → EvC K l te (ρ.set j (some (.dat (.int i)))) m1
        fun n2 y => n2 = m1 ∧ y = f i) ∧
      Φ m1 (.lst ((List.range c).map f))) :
    EvC K l (tLc (iRng1 tA) (gName j) tYes te [j]) ρ m Φ := by
  refine e_lcR hj (a_imp h fun m1 x q => ?_)
  obtain ⟨z, rfl, c, f, rfl, hc, hb, hq⟩ := q
  refine ⟨_, rfl, by omega, by omega, fun i n acc => n = m1 ∧
    acc = ((List.range c).map f).take i, ⟨rfl, rfl⟩, ?_, ?_⟩
  · intro i n acc hi hI _
    rw [Int.toNat_natCast] at hi
    obtain ⟨rfl, rfl⟩ := hI
    refine e_imp (hb i hi) fun n2 y q => ?_
    obtain ⟨rfl, rfl⟩ := q
    refine ⟨rfl, (take_snoc' ?_).symm⟩
    rw [List.getElem?_map, List.getElem?_range hi]; rfl
  · intro n acc hl hI
    obtain ⟨rfl, rfl⟩ := hI
    rw [Int.toNat_natCast, List.take_of_length_le (by simp)]
    exact hq
theorem e_lcLf {j : Nat} (hj : ρ[j]? = some none)
    (h : EvC K l tl ρ m fun m1 x => ∃ ds, x = .lst ds ∧
      ∃ (α : Type) (xs : List α) (g f : α → D), ds = xs.map g ∧
      xs.length ≤ 50000 ∧
      (∀ (i : Nat) a, xs[i]? = some a →
        EvC K l te (ρ.set j (some (.dat (g a)))) m1
          fun n2 y => n2 = m1 ∧ y = f a) ∧ Φ m1 (.lst (xs.map f))) :
    EvC K l (tLc (iList K tl) (gName j) tYes te [j]) ρ m Φ := by
  refine e_lcL hj (e_imp h fun m1 x q => ?_)
  obtain ⟨ds, rfl, α, xs, g, f, rfl, hc, hb, hq⟩ := q
  refine ⟨_, rfl, by rw [List.length_map]; exact hc, fun i n acc => n = m1 ∧
    acc = (xs.map f).take i, ⟨rfl, rfl⟩, ?_, ?_⟩
  · intro i n acc d hd hI _
    obtain ⟨rfl, rfl⟩ := hI
    rw [List.getElem?_map] at hd
    cases e : xs[i]? with
    | none => rw [e] at hd; cases hd
    | some a =>
      rw [e] at hd
      cases hd
      refine e_imp (hb i a e) fun n2 y q => ?_
      obtain ⟨rfl, rfl⟩ := q
      refine ⟨rfl, (take_snoc' ?_).symm⟩
      rw [List.getElem?_map, e]; rfl
  · intro n acc hl hI
    obtain ⟨rfl, rfl⟩ := hI
    rw [List.length_map, List.take_of_length_le (by simp)]
    exact hq
theorem e_lcRd {j : Nat} (hj : ρ[j]? = some none)
    (h : AvC K l tA ρ m fun m1 x => ∃ z : Int, x = [.int z] ∧
      ∃ (c k : Nat) (P : Nat → D → Prop), z = c ∧ c ≤ 50000 ∧
      (∀ i n : Nat, i < c → n ≤ m1 + k * i →
        EvC K l te (ρ.set j (some (.dat (.int i)))) n
          fun n2 y => n2 ≤ n + k ∧ P i y) ∧
      ∀ n ys, n ≤ m1 + k * c → ys.length = c →
        (∀ (i : Nat) y, ys[i]? = some y → P i y) → Φ n (.lst ys)) :
    EvC K l (tLc (iRng1 tA) (gName j) tYes te [j]) ρ m Φ := by
  refine e_lcR hj (a_imp h fun m1 x q => ?_)
  obtain ⟨z, rfl, c, k, P, rfl, hc, hb, hq⟩ := q
  refine ⟨_, rfl, by omega, by omega, fun i n acc => n ≤ m1 + k * i ∧
    ∀ (i : Nat) y, acc[i]? = some y → P i y,
    ⟨Nat.le_add_right _ _, fun i y e => by simp at e⟩, ?_, ?_⟩
  · intro i n acc hi hI hal
    rw [Int.toNat_natCast] at hi
    refine e_imp (hb i n hi hI.1) fun n2 y q => ⟨?_, get_snoc hal hI.2 q.2⟩
    have := hI.1
    have := q.1
    rw [Nat.mul_add, Nat.mul_one]
    omega
  · intro n acc hl hI
    rw [Int.toNat_natCast] at hl hI
    exact hq n acc hI.1 hl hI.2
theorem s_forRw {j : Nat}
    (h : AvC K l tA ρ m fun m1 x => ∃ z : Int, x = [.int z] ∧
      ∃ (c k : Nat) (W : List Nat) (R : Nat → List (Option Sl) → Prop)
        (xs0 : List (Option Sl)), z = c ∧ c < 2 ^ 62 ∧
      xs0.length = W.length ∧ ρ = put ρ W xs0 ∧ R 0 xs0 ∧
      (∀ (i n : Nat) xs, i < c → n ≤ m1 + k * i → xs.length = W.length →
        R i xs → SvC K l tb ((put ρ W xs).set j (some (.dat (.int i)))) n
          (fun n2 ρ2 => n2 ≤ n + k ∧ ∃ xs', xs'.length = W.length ∧
            ρ2 = put ρ W xs' ∧ R (i + 1) xs') Rt) ∧
      ∀ n xs, n ≤ m1 + k * c → xs.length = W.length → R c xs →
        Nx n (put ρ W xs)) :
    SvC K l (tFor (iRng1 tA) (gName j) tb) ρ m Nx Rt := by
  refine s_forR (a_imp h fun m1 x q => ?_)
  obtain ⟨z, rfl, c, k, W, R, xs0, rfl, hc, hl0, e0, h0, hb, hq⟩ := q
  refine ⟨_, rfl, by omega, by omega, fun i n ρ' => n ≤ m1 + k * i ∧
    ∃ xs, xs.length = W.length ∧ ρ' = put ρ W xs ∧ R i xs,
    ⟨Nat.le_add_right _ _, xs0, hl0, e0, h0⟩, ?_, ?_⟩
  · intro i n ρ' hi hI
    rw [Int.toNat_natCast] at hi
    obtain ⟨hn, xs, hx, rfl, hR⟩ := hI
    refine s_imp (hb i n xs hi hn hx hR) (fun n2 ρ2 q => ⟨?_, q.2⟩)
      fun n d q => q
    have := q.1
    rw [Nat.mul_add, Nat.mul_one]
    omega
  · intro n ρ' hI
    rw [Int.toNat_natCast] at hI
    obtain ⟨hn, xs, hx, rfl, hR⟩ := hI
    exact hq n xs hn hx hR
theorem s_forTw {j : Nat}
    (h : EvC K l tl ρ m fun m1 x => ∃ ds, x = .tup ds ∧
      ∃ (k : Nat) (W : List Nat) (R : Nat → List (Option Sl) → Prop)
        (xs0 : List (Option Sl)),
      xs0.length = W.length ∧ ρ = put ρ W xs0 ∧ R 0 xs0 ∧
      (∀ (i n : Nat) d xs, ds[i]? = some d → n ≤ m1 + k * i →
        xs.length = W.length → R i xs →
        SvC K l tb ((put ρ W xs).set j (some (.dat d))) n
          (fun n2 ρ2 => n2 ≤ n + k ∧ ∃ xs', xs'.length = W.length ∧
            ρ2 = put ρ W xs' ∧ R (i + 1) xs') Rt) ∧
      ∀ n xs, n ≤ m1 + k * ds.length → xs.length = W.length →
        R ds.length xs → Nx n (put ρ W xs)) :
    SvC K l (tFor (iTup K tl) (gName j) tb) ρ m Nx Rt := by
  refine s_forT (e_imp h fun m1 x q => ?_)
  obtain ⟨ds, rfl, k, W, R, xs0, hl0, e0, h0, hb, hq⟩ := q
  refine ⟨_, rfl, fun i n ρ' => n ≤ m1 + k * i ∧
    ∃ xs, xs.length = W.length ∧ ρ' = put ρ W xs ∧ R i xs,
    ⟨Nat.le_add_right _ _, xs0, hl0, e0, h0⟩, ?_, ?_⟩
  · intro i n ρ' d hi hI
    obtain ⟨hn, xs, hx, rfl, hR⟩ := hI
    refine s_imp (hb i n d xs hi hn hx hR) (fun n2 ρ2 q => ⟨?_, q.2⟩)
      fun n d q => q
    have := q.1
    rw [Nat.mul_add, Nat.mul_one]
    omega
  · intro n ρ' hI
    obtain ⟨hn, xs, hx, rfl, hR⟩ := hI
    exact hq n xs hn hx hR
theorem s_forLw {j : Nat}
    (h : EvC K l tl ρ m fun m1 x => ∃ ds, x = .lst ds ∧
      ∃ (k : Nat) (W : List Nat) (R : Nat → List (Option Sl) → Prop)
        (xs0 : List (Option Sl)),
      xs0.length = W.length ∧ ρ = put ρ W xs0 ∧ R 0 xs0 ∧
      (∀ (i n : Nat) d xs, ds[i]? = some d → n ≤ m1 + k * i →
        xs.length = W.length → R i xs →
        SvC K l tb ((put ρ W xs).set j (some (.dat d))) n
          (fun n2 ρ2 => n2 ≤ n + k ∧ ∃ xs', xs'.length = W.length ∧
            ρ2 = put ρ W xs' ∧ R (i + 1) xs') Rt) ∧
      ∀ n xs, n ≤ m1 + k * ds.length → xs.length = W.length →
        R ds.length xs → Nx n (put ρ W xs)) :
    SvC K l (tFor (iList K tl) (gName j) tb) ρ m Nx Rt := by
  refine s_forL (e_imp h fun m1 x q => ?_)
  obtain ⟨ds, rfl, k, W, R, xs0, hl0, e0, h0, hb, hq⟩ := q
  refine ⟨_, rfl, fun i n ρ' => n ≤ m1 + k * i ∧
    ∃ xs, xs.length = W.length ∧ ρ' = put ρ W xs ∧ R i xs,
    ⟨Nat.le_add_right _ _, xs0, hl0, e0, h0⟩, ?_, ?_⟩
  · intro i n ρ' d hi hI
    obtain ⟨hn, xs, hx, rfl, hR⟩ := hI
    refine s_imp (hb i n d xs hi hn hx hR) (fun n2 ρ2 q => ⟨?_, q.2⟩)
      fun n d q => q
    have := q.1
    rw [Nat.mul_add, Nat.mul_one]
    omega
  · intro n ρ' hI
    obtain ⟨hn, xs, hx, rfl, hR⟩ := hI
    exact hq n xs hn hx hR
/-- an item, by a number from 0 -/
theorem v_ixN {ds : List D} {d : D} {c : Nat} (hd : ds[c]? = some d)
    (q : Φ m d) :
    VvC K l ρ (fun vs H Q => ∃ x y, vs = [x, y] ∧ rIxT K x y H Q)
      [.tup ds, .int (c : Int)] m Φ :=
  v_ixT (by omega) (by rw [Int.toNat_natCast]; exact hd) q
theorem v_ixNL {ds : List D} {d : D} {c : Nat} (hd : ds[c]? = some d)
    (q : Φ m d) :
    VvC K l ρ (fun vs H Q => ∃ x y, vs = [x, y] ∧ rIxL K x y H Q)
      [.lst ds, .int (c : Int)] m Φ :=
  v_ixL (by omega) (by rw [Int.toNat_natCast]; exact hd) q
theorem v_neSame {a : Str} (q : Φ m (.bl false)) :
    VvC K l ρ (fun vs H Q => ∃ x y, vs = [x, y] ∧ rNe x y H Q)
      [.str a, .str a] m Φ :=
  v_neS (by rw [decide_eq_true rfl]; exact q)
theorem v_eqSame {a : Str} (q : Φ m (.bl true)) :
    VvC K l ρ (fun vs H Q => ∃ x y, vs = [x, y] ∧ rEq x y H Q)
      [.str a, .str a] m Φ :=
  v_eqS (by rw [decide_eq_true rfl]; exact q)
theorem v_isNn (q : Φ m (.bl true)) :
    VvC K l ρ (fun vs H Q => ∃ x y, vs = [x, y] ∧ rIsN x y H Q)
      [.non, .non] m Φ := v_isN q
theorem v_neDs {a : D} {k w : Nat} (h : Num k w a) (hk : k ≤ 64)
    (q : Φ m (.bl false)) :
    VvC K l ρ (fun vs H Q => ∃ x y, vs = [x, y] ∧ rNeD K x y H Q)
      [a, a] m Φ :=
  v_neD (h.eqs hk) (h.eqs hk) (by rw [h.same]; exact q)
end
end Wt

namespace Wt
open PySem PySem.Spec PyProof.Rows L2
def ItET (K : PySem.W.Frag) (a : Addr) : It where
  go := fun i H => ∃ xs : List V, SqT K H a xs ∧ i < xs.length
  yld := fun i H v H' => ∃ T x, v = .ref T ∧ H T = none ∧
    H' = upd H T (.tup [.int (i : Nat), x]) ∧
    ∀ xs, SqT K H a xs → xs[i]? = some x
  stop := fun i H => ∃ xs : List V, SqT K H a xs ∧ i = xs.length
def tnE (n a i : Nat) (h : Heap) : Prop :=
  (∃ old, IsEnum h (n + 1) n ((0 : Int) + (i : Int)) old) ∧
    h.IsTupleIter n a i
theorem goesE {prog : Program} {w : World} {A : Around} {elts : List Expr}
    {k : Nat} {pos : Pos} {n a : Nat} (hh : A.handled = none) (ha : a < n)
    (xs : Array Value) :
    GoesN prog w A (.Tuple elts k pos) (n + 1) ((n + 1) :: [n, a])
      [n + 1, n] xs.size
      (fun i h0 v h => ∃ T t x, v = .ref T ∧ h0.objs.size ≤ T ∧
        xs[i]? = some x ∧ h.IsTuple T #[.int ((0 : Int) + (i : Int)) t, x])
      (fun i h => (∃ old, IsEnum h (n + 1) n ((0 : Int) + (i : Int)) old) ∧
        h.IsTupleIter n a i ∧ h.IsTuple a xs) :=
  GoesN.enumFrom 0
    (Draws.tuple (A := A.in1) hh n a (Nat.ne_of_lt ha) xs) (n + 1)
    (Nat.succ_ne_self n)
    (by
      intro z
      simp only [List.mem_cons, List.not_mem_nil, or_false] at z
      rcases z with z | z <;> (have z : (_ : Nat) = _ := z; omega))
    List.mem_cons_self
theorem turnE {P : Program} {w : World} {K : PySem.W.Frag}
    {elts : List Expr} {kk : Nat} {tpos : Pos} {n a : Nat} (ha : a < n) :
    Turn P w K (.Tuple elts kk tpos) (ItET K a) [n + 1, n] (n + 1)
      (tnE n a) where
  mem := List.mem_cons_self
  obj := fun i h st x hx => by
    obtain ⟨⟨old, he⟩, ⟨o1, e1, _, d1⟩⟩ := st
    simp only [List.mem_cons, List.not_mem_nil, or_false] at hx
    rcases hx with rfl | rfl
    · exact ⟨_, he, nofun⟩
    · exact ⟨o1, e1, fun v q => by rw [d1] at q; cases q⟩
  keep := fun i h h' st k => by
    obtain ⟨⟨old, he⟩, h1⟩ := st
    exact ⟨⟨old, k _ (by simp) _ he⟩, h1.at fun o q => k n (by simp) o q⟩
  item := by
    intro X hP hw hK hcl i pins s σ H E I hf st hg
    subst hP hw hK
    obtain ⟨he, h1⟩ := id st
    obtain ⟨xs, q1, hi⟩ := hg
    obtain ⟨its1, r1, p1, _⟩ := I.tuple q1
    have l1 := r1.length
    have lt : ∀ d ∈ [n + 1, n], d < s.heap.objs.size := by
      intro d hd
      obtain ⟨old, he⟩ := he
      obtain ⟨o1, e1, _⟩ := h1
      simp only [List.mem_cons, List.not_mem_nil, or_false] at hd
      rcases hd with rfl | rfl
      · exact Heap.lt_size he
      · exact Heap.lt_size e1
    refine (goesE (I.ok.hd hcl) ha its1.toArray).goes i s _ E
      (by simp only [List.size_toArray]; omega) ⟨he, h1, p1⟩
      fun v h' tk hY st' hk htk => ?_
    obtain ⟨T, t, x, rfl, hT, e1, hTu⟩ := hY
    obtain ⟨vx, ex⟩ : ∃ vx, xs[i]? = some vx :=
      ⟨xs[i]'hi, List.getElem?_eq_getElem _⟩
    obtain ⟨u1, g1, k1⟩ := r1.get ex
    rw [List.getElem?_toArray, g1] at e1
    cases e1
    have new : ObjOk X.prog X.w (upd H T (.tup [.int (i : Nat), vx])) h' T
        (.tup [.int (i : Nat), vx]) :=
      ⟨by show 2 ≤ sizeLine; decide, [_, x],
        .cons ⟨t, by rw [Int.zero_add]⟩ (.cons k1 .nil), hTu⟩
    have I1 := I.turnedNew (t' := tk) (ch := [n + 1, n])
      (fun d o hd q => hk d o hd q) hf hT new
    obtain ⟨z1, z2, z3⟩ := st'
    refine ⟨.ref T, _, I1, rfl, ⟨T, vx, rfl, I.hok.fresh hT, rfl,
      fun l hl => ?_⟩, ⟨z1, z2⟩, fun d hd => ?_⟩
    · rw [I.tuple_inj hl q1]; exact ex
    · have := lt d hd
      rw [upd_ne (fun (z : d = T) =>
        Nat.lt_irrefl d (Nat.lt_of_lt_of_le this (z ▸ hT)))]
      exact (hf d hd).1
  done := by
    intro X hP hw hK hcl i pins s σ H E I hf st hg
    subst hP hw hK
    obtain ⟨he, h1⟩ := st
    obtain ⟨xs, q1, hi⟩ := hg
    obtain ⟨its1, r1, p1, _⟩ := I.tuple q1
    have e : its1.toArray.size = i := by
      have l1 := r1.length
      simp only [List.size_toArray]
      omega
    refine (goesE (prog := X.prog) (w := X.w) (elts := elts) (k := kk)
      (pos := tpos) (I.ok.hd hcl) ha its1.toArray).stops s _ E
      (by rw [e]; exact ⟨he, h1, p1⟩) fun h' tk hk htk => ?_
    exact I.turnedL (t' := tk) (ch := [n + 1, n])
      (fun d o hd q => hk d o hd q) hf
  self := fun A i s Q E st h => let ⟨⟨_, he⟩, _⟩ := st; wpAny_pyIter_enum he h
theorem meetsE {v : Value} {o : Obj} {H : Heap → Prop} (B : Begins v o H) :
    Meets (Builtin.«enumerate.__new__» ⟨[.type "enumerate", v], []⟩)
      (fun _ R s => H s.heap ∧
        R (.ok (.ret (.ref (s.heap.push o).objs.size)))
          { s with heap := ((s.heap.push o).push (Obj.mk (.type "enumerate")
              none (.fields #[.none, .bool false, .ref s.heap.objs.size,
                rawInt 0, .none, .none]) #[])) }) :=
  .of_wp fun prog w A R s h => by
    obtain ⟨hp, g, d, tk, os⟩ := s
    obtain ⟨h1, h⟩ := h
    have hsub := sub_enumerate
    have q1 : ∀ {A' : Around} {E : Value → Shared → Prop}
        {Q : Value → Shared → Prop},
        Q (.ref hp.objs.size) ⟨hp.push o, g, d, tk, os⟩ →
        wpAny (model prog w) A' (pyIter v) Q E ⟨hp, g, d, tk, os⟩ :=
      fun q => B.iter prog w _ _ ⟨hp, g, d, tk, os⟩ _ h1 q
    wp_walk using q1
    refine wpAny_stack_any fun st => wpAny_pure ?_
    split
    · rename_i c _ _ _ _ _
      cases (c == Value.type "enumerate") <;>
        (wp_walk using q1; exact ⟨_, rfl, h⟩)
    · (wp_walk using q1; exact ⟨_, rfl, h⟩)
def enumO (n : Nat) : Obj := Obj.mk (.type "enumerate") none
  (.fields #[.none, .bool false, .ref n, rawInt 0, .none, .none]) #[]
theorem callE {prog : Program} {w : World} {A : Around}
    {E : Value → Shared → Prop} {s : Shared} {a : Addr} {items : Array Value}
    {Q : Value → Shared → Prop} (hT : s.heap.IsTuple a items)
    (h : ∀ h', IsEnum h' (s.heap.objs.size + 1) s.heap.objs.size 0 .none →
      h'.IsTupleIter s.heap.objs.size a 0 →
      (∀ b o, s.heap.get? b = some o → h'.get? b = some o) →
      Q (.ref (s.heap.objs.size + 1)) { s with heap := h' }) :
    wpAny (model prog w) A (call (.type "enumerate") [.ref a]) Q E s := by
  refine callType_new F.called_enumerate (by decide)
    (F.typeCall_enumerate_1 _) (F.newCall_enumerate_1 _)
    (fun obj => F.args_object_init_2 obj _) F.entry_enumerate_new
    (meetsE (begins_tuple a items)) ⟨hT, ?_⟩
  have hz : ∀ o : Obj, (s.heap.push o).objs.size = s.heap.objs.size + 1 :=
    fun o => Heap.size_push ..
  show _ ∧ _
  rw [hz]
  have he : ∀ o : Obj, IsEnum ((s.heap.push o).push (enumO s.heap.objs.size))
      (s.heap.objs.size + 1) s.heap.objs.size 0 .none := by
    intro o
    have := Heap.get?_push_size (s.heap.push o)
      (o := enumO s.heap.objs.size) rfl
    rw [hz] at this
    exact this
  exact ⟨⟨_, he _, rfl⟩, h _ (he _) ⟨_, Heap.get?_push_of_some _
    (Heap.get?_push_size _ rfl), rfl, rfl⟩ fun b o x =>
      Heap.get?_push_of_some _ (Heap.get?_push_of_some _ x)⟩
def iEnT (K : PySem.W.Frag) (ta : TA) : TI := fun σ H R =>
  ta σ H fun vs H1 => ∃ a xs, vs = [.ref a] ∧ SqT K H1 a xs ∧
    R (ItET K a) H1
theorem pi_enT {X : Cx} {e : Expr} {ta : TA} {p pos tpos : Pos}
    {elts : List Expr} {kk : Nat} (hg : Gl X "enumerate")
    (hm : X.mg "enumerate" = none) (ha : PA X [e] ta)
    (hs : starEach [e] X.env = [(false, eval e X.env)] := by rfl) :
    PI X (.Tuple elts kk tpos) (.Call (.Name "enumerate" p) [e] [] pos)
      (iEnT X.K ta) := by
  refine ⟨fun pins s σ H R I h => ?_⟩
  refine Call_ (ld_blt I hg hm boot_enumerate
    (PyProof.Rows.callWith_type1 (thn (ha.run pos pins s σ H _ I h)
      fun us s1 ⟨vs, H1, I1, r1, q1⟩ => ?_) hs rfl))
  obtain ⟨a, xs, rfl, hq, q⟩ := q1
  cases r1 with
  | cons r rr =>
    cases rr
    cases r
    obtain ⟨its, rv, p', hz⟩ := I1.tuple hq
    have la : a < s1.heap.objs.size := let ⟨_, z, _⟩ := p'; Heap.lt_size z
    refine callE (show s1.heap.IsTuple a its.toArray from p')
      fun h' he hit hk => wpAny_pyIter_enum he ?_
    have I2 : Inv X pins σ H1 { s1 with heap := h' } :=
      I1.kept (t' := s1.toks) hk
    refine ⟨s1.heap.objs.size + 1, _, _, _, H1, rfl, I2, turnE la,
      ⟨⟨.none, by simpa using he⟩, hit⟩, fun d hd => ?_, q⟩
    have hle : s1.heap.objs.size ≤ d := by
      simp only [List.mem_cons, List.not_mem_nil, or_false] at hd
      rcases hd with z | z <;> (have z : (_ : Nat) = _ := z; omega)
    exact I1.fpOk hle (I1.hok.fresh hle)
theorem walk_enT {K : PySem.W.Frag} {a : Addr} {xs : List V} :
    Walk (ItET K a) xs.length (fun H => SqT K H a xs)
      (YPair (fun i => some (.int (i : Nat))) (fun i => xs[i]?)) := by
  refine ⟨fun i _ hi q => ⟨xs, q, hi⟩, fun _ q => ⟨xs, q, rfl⟩,
    fun i H v H' _ q y => ?_⟩
  obtain ⟨T, x, h1, h2, h3, h4⟩ := y
  exact ⟨T, .int (i : Nat), x, h1, h2, h3, rfl, h4 xs q⟩
section
variable {K : PySem.W.Frag} {l : Option Addr} {ρ : Ro} {m : Nat}
variable {Φ : Nat → D → Prop} {Θ : Nat → Bool → Prop}
variable {Nx : Nat → Ro → Prop} {Rt : Nat → D → Prop} {ts tb : TS}
variable {ta te tl : TE} {t u : TT} {tA tK : TA}
/-- for i, a in enumerate(t) -/
theorem s_forE {i j : Nat}
    (h : AvC K l tA ρ m fun m1 as => ∃ ys, as = [.tup ys] ∧
      ∃ I : Nat → Nat → Ro → Prop, I 0 m1 ρ ∧
      (∀ (c n : Nat) ρ' e, ys[c]? = some e → I c n ρ' →
        SvC K l tb ((ρ'.set i (some (.dat (.int c)))).set j (some (.dat e))) n
          (fun n2 ρ2 => I (c + 1) n2 ρ2) Rt) ∧
      ∀ n ρ', I ys.length n ρ' → Nx n ρ') :
    SvC K l (tFor (iEnT K tA) (g2 K i j) tb) ρ m Nx Rt := by
  intro Z B H σ W ok k jr
  refine h Z B H σ _ ok fun vs as m1 B1 H1 o1 f1 i1 g1 => ?_
  obtain ⟨ys, rfl, I, h0, hs, hd⟩ := g1
  obtain ⟨v, rfl, z1⟩ := isAll1 i1
  cases z1 with
  | @tup a us _ hu r1 =>
    refine ⟨a, us, rfl, sameT o1.sub hu, ?_⟩
    refine for_it (walk_enT (xs := us))
      (fun c σ' H' => ∃ n ρ' B', Ok K l Z n B' H' σ' ρ' ∧
        Fr Z B1 H1 B' H' ∧ I c n ρ')
      ⟨m1, ρ, B1, o1, Fr.refl, h0⟩ (fun c σ' H' _ w => ?_)
      (fun c x σ' H' H'' hc w q => ?_) fun σ' H' w => ?_
    · obtain ⟨n, ρ', B', ok', fr', _⟩ := w
      exact sameT ok'.sub (sameT fr'.sub hu)
    · obtain ⟨T, x1, y1, rfl, hT, rfl, e1, e2⟩ := q
      cases e1
      obtain ⟨n, ρ', B', ok', fr', hI⟩ := w
      obtain ⟨e, q2, p2⟩ := (r1.mono fr'.sub).get e2
      obtain ⟨okJ, frJ⟩ := ok'.junk (o := .tup [.int (c : Nat), y1]) hT
      refine ⟨T, [.int (c : Nat), y1], rfl, SqT.of upd_same, rfl,
        .int (c : Nat), [y1], rfl, y1, [], rfl, rfl, ?_⟩
      refine hs c n ρ' e q2 hI Z B' _ _ _ ((okJ.set (.int _)).set p2)
        (fun σ2 ρ2 m2 B2 H2 o2 f2 g2 =>
          ⟨m2, ρ2, B2, o2, (fr'.trans frJ).trans f2, g2⟩)
        fun v d m2 B2 H2 o2 f2 i2 g2 => ?_
      exact jr v d m2 B2 H2 o2 ((f1.trans (fr'.trans frJ)).trans f2) i2 g2
    · obtain ⟨n, ρ', B', ok', fr', hI⟩ := w
      rw [r1.length] at hI
      exact k σ' ρ' n B' H' ok' (f1.trans fr') (hd n ρ' hI)
theorem s_forEw {i j : Nat}
    (h : AvC K l tA ρ m fun m1 as => ∃ ys, as = [.tup ys] ∧
      ∃ (k : Nat) (W : List Nat) (R : Nat → List (Option Sl) → Prop)
        (xs0 : List (Option Sl)),
      xs0.length = W.length ∧ ρ = put ρ W xs0 ∧ R 0 xs0 ∧
      (∀ (c n : Nat) e zs, ys[c]? = some e →
        n ≤ m1 + k * c → zs.length = W.length → R c zs →
        SvC K l tb (((put ρ W zs).set i (some (.dat (.int c)))).set j
            (some (.dat e))) n
          (fun n2 ρ2 => n2 ≤ n + k ∧ ∃ xs', xs'.length = W.length ∧
            ρ2 = put ρ W xs' ∧ R (c + 1) xs') Rt) ∧
      ∀ n zs, n ≤ m1 + k * ys.length → zs.length = W.length →
        R ys.length zs → Nx n (put ρ W zs)) :
    SvC K l (tFor (iEnT K tA) (g2 K i j) tb) ρ m Nx Rt := by
  refine s_forE (a_imp h fun m1 x q => ?_)
  obtain ⟨ys, rfl, k, W, R, xs0, hl0, e0, h0, hb, hq⟩ := q
  refine ⟨_, rfl, fun i n ρ' => n ≤ m1 + k * i ∧
    ∃ xs, xs.length = W.length ∧ ρ' = put ρ W xs ∧ R i xs,
    ⟨Nat.le_add_right _ _, xs0, hl0, e0, h0⟩, ?_, ?_⟩
  · intro c n ρ' e he hI
    obtain ⟨hn, xs, hx, rfl, hR⟩ := hI
    refine s_imp (hb c n e xs he hn hx hR) (fun n2 ρ2 q => ⟨?_, q.2⟩)
      fun n d q => q
    have := q.1
    rw [Nat.mul_add, Nat.mul_one]
    omega
  · intro n ρ' hI
    obtain ⟨hn, xs, hx, rfl, hR⟩ := hI
    exact hq n xs hn hx hR
/-- o.m(), the fields known -/
theorem e_methO {C : Addr} {n1 n2 me : Str} {pre : List D → Prop}
    {F : List D → D} {E : XK} (c : Own2 K C n1 n2) (hm1 : me ≠ n1)
    (hm2 : me ≠ n2)
    (h : EvC K l ta ρ m fun m1 x => ∃ d1 d2, x = .ins C [n1, n2] [d1, d2] ∧
      pre [x] ∧ Φ m1 (F [x])) :
    EvC K l (tMeth C me (SpP K pre F) [] E ta tNil) ρ m Φ :=
  e_meth0 hm1 hm2 h
theorem v_eqDo {a b : D} {k w k' w' : Nat} (h : Num k w a) (h' : Num k' w' b)
    (hk : k ≤ 64) (hk' : k' ≤ 64) (n : a ≠ b) (q : Φ m (.bl false)) :
    VvC K l ρ (fun vs H Q => ∃ x y, vs = [x, y] ∧ rEqD K x y H Q)
      [a, b] m Φ :=
  v_eqD (h.eqs hk) (h'.eqs hk') (by rw [h.other h' n]; exact q)
theorem v_neDo {a b : D} {k w k' w' : Nat} (h : Num k w a) (h' : Num k' w' b)
    (hk : k ≤ 64) (hk' : k' ≤ 64) (n : a ≠ b) (q : Φ m (.bl true)) :
    VvC K l ρ (fun vs H Q => ∃ x y, vs = [x, y] ∧ rNeD K x y H Q)
      [a, b] m Φ :=
  v_neD (h.eqs hk) (h'.eqs hk') (by rw [h.other h' n]; exact q)
end
end Wt

namespace Wt
open PySem PySem.Spec PyProof.Rows L2
section
variable {K : PySem.W.Frag} {l : Option Addr} {ρ : Ro} {m : Nat}
variable {Φ : Nat → D → Prop} {Θ : Nat → Bool → Prop}
variable {Nx : Nat → Ro → Prop} {Rt : Nat → D → Prop} {ts tb : TS}
variable {ta te tl ti : TE} {t u tt : TT} {tA tK : TA}
variable {Z Z' : Addr → Prop} {B H : Hp} {σ : L2.St}
theorem isAll_rng {B : Hp} (n : Nat) : IsAll K B (rgV 0 (n : Int))
    ((List.range n).map fun (i : Nat) => D.int i) := by
  unfold rgV
  rw [show ((n : Int) - 0).toNat = n by omega]
  induction n with
  | zero => exact .nil
  | succ n ih =>
    rw [List.range_succ, List.map_append, List.map_append]
    refine ih.append (.cons ?_ .nil)
    show Is K B (.int (0 + (n : Int))) (.int n)
    rw [Int.zero_add]
    exact .int _
theorem e_tupRg (h : EvC K l ta ρ m fun m1 d => ∃ z, d = .int z ∧
      ∃ n : Nat, z = n ∧ n ≤ 10000 ∧
      Φ m1 (.tup ((List.range n).map fun (i : Nat) => .int i))) :
    EvC K l (tTupRgC (tRg1 ta)) ρ m Φ := by
  intro Z B H σ Q ok k
  refine h Z B H σ _ ok fun v d m1 B1 H1 o1 f1 i1 g1 => ?_
  obtain ⟨z, rfl, n, rfl, hn, q⟩ := g1
  cases i1
  refine ⟨n, rfl, RgOk.of_le (by omega) (by omega) (by omega) (by omega),
    fun p ob hp hd _ => ?_⟩
  obtain ⟨o2, f2⟩ := o1.new (o := .frz ob (.tup (rgV 0 n))) hp
  exact k _ _ m1 _ _ o2 (f1.trans f2) (.newT upd_same hd
    (isAll_rng n)) q
theorem e_lstRg (h : EvC K l ta ρ m fun m1 d => ∃ z, d = .int z ∧
      ∃ n : Nat, z = n ∧ n ≤ 10000 ∧
      Φ m1 (.lst ((List.range n).map fun (i : Nat) => .int i))) :
    EvC K l (tLstRg (tRg1 ta)) ρ m Φ := by
  intro Z B H σ Q ok k
  refine h Z B H σ _ ok fun v d m1 B1 H1 o1 f1 i1 g1 => ?_
  obtain ⟨z, rfl, n, rfl, hn, q⟩ := g1
  cases i1
  refine ⟨n, rfl, RgOk.of_le (by omega) (by omega) (by omega) (by omega),
    fun p hp => ?_⟩
  obtain ⟨o2, f2⟩ := o1.new (o := .lst (rgV 0 n)) hp
  exact k _ _ m1 _ _ o2 (f1.trans f2) (.lst upd_same (isAll_rng n)) q
def LcX (K : PySem.W.Frag) (l : Option Addr) (Z : Addr → Prop) (ρ : Ro)
    (σ : L2.St) (B H : Hp) (A : Addr) (I : Nat → Nat → List D → Prop)
    (i : Nat) (H' : Hp) : Prop :=
  ∃ n acc xs B', Ok K l (fun a => Z a ∨ a = A) n B' H' σ ρ ∧
    Fr Z B H B' H' ∧ H' A = some (.lst xs) ∧ IsAll K B' xs acc ∧
    I i n acc ∧ acc.length ≤ i
theorem lcx_turn {A : Addr} {I : Nat → Nat → List D → Prop} {i j : Nat}
    {x : V} {H' : Hp} {P : D → Prop} (hz : ¬ Z A) (hj : ρ[j]? = some none)
    (w : LcX K l Z ρ σ B H A I i H')
    (hx : ∀ B', Same B B' → ∃ d, Is K B' x d ∧ P d) (hi : i < 100000)
    (he : ∀ d n acc, P d → I i n acc →
      TvC K l tt (ρ.set j (some (.dat d))) n fun n1 b =>
        if b = true then EvC K l te (ρ.set j (some (.dat d))) n1 fun n2 y =>
          I (i + 1) n2 (acc ++ [y]) else I (i + 1) n1 acc) :
    gName j x (wipe σ [j]) H' fun σ2 H2 => wipe σ2 [j] = wipe σ [j] ∧
      tt σ2 H2 fun b H3 => if b = true then te σ2 H3 fun y H4 =>
        ∃ acc, H4 A = some (.lst acc) ∧ acc.length < sizeLine ∧
          LcX K l Z ρ σ B H A I (i + 1) (upd H4 A (.lst (acc ++ [y])))
      else LcX K l Z ρ σ B H A I (i + 1) H3 := by
  obtain ⟨n, acc, xs, B', ok, fr, hA, is, hI, hl⟩ := w
  obtain ⟨d, hd, hP⟩ := hx B' fr.sub
  have e1 : (wipe σ [j]).set j (some x) = σ.set j (some x) := by
    show (σ.set j none).set j (some x) = _
    rw [List.set_set]
  unfold gName
  rw [e1]
  refine ⟨?_, ?_⟩
  · show (σ.set j (some x)).set j none = σ.set j none
    rw [List.set_set]
  · refine he d n acc hP hI _ B' H' _ _ (ok.set hd)
      fun b n1 B1 H1 o1 f1 g1 => ?_
    have hA1 : H1 A = some (.lst xs) := (f1.kept A (.inr rfl)).trans hA
    cases b with
    | false =>
      rw [if_neg Bool.false_ne_true] at g1 ⊢
      exact ⟨n1, acc, xs, B1, o1.unset hj, fr.trans (f1.weak fun z q => .inl q),
        hA1, is.mono f1.sub, g1, by omega⟩
    | true =>
      rw [if_pos rfl] at g1 ⊢
      refine g1 _ B1 H1 _ _ o1 fun v y n2 B2 H2 o2 f2 i2 g2 => ?_
      have hA2 : H2 A = some (.lst xs) := (f2.kept A (.inr rfl)).trans hA1
      refine ⟨xs, hA2, ?_, n2, acc ++ [y], xs ++ [v], B2,
        (o2.unset hj).write (.inr rfl), ?_, upd_same,
        ((is.mono f1.sub).mono f2.sub).append (.cons i2 .nil), g2,
        by simp; omega⟩
      · rw [is.length]
        exact Nat.lt_of_le_of_lt hl (Nat.lt_of_lt_of_le hi (by decide))
      · refine ⟨(fr.sub.trans f1.sub).trans f2.sub, fun z hz' => ?_⟩
        rw [upd_ne (fun (e : z = A) => hz (e ▸ hz'))]
        exact ((f2.kept z (.inl hz')).trans (f1.kept z (.inl hz'))).trans
          (fr.kept z hz')
theorem lcx_end {A : Addr} {I : Nat → Nat → List D → Prop} {i : Nat}
    {H' : Hp} {Q : VK} (hz : ¬ Z A) (w : LcX K l Z ρ σ B H A I i H')
    (q : ∀ n acc, I i n acc → Φ n (.lst acc))
    (k : ∀ v d m' B2 H2, Ok K l Z m' B2 H2 σ ρ → Fr Z B H B2 H2 →
      Is K B2 v d → Φ m' d → Q v H2) : Q (.ref A) H' := by
  obtain ⟨n, acc, xs, B', ok, fr, hA, is, hI, hl⟩ := w
  have z2 := (ok.zs A (.inr rfl)).2.1
  exact k _ _ n _ _ (ok.thaw hA hz) ⟨fr.sub.trans (same_new z2), fr.kept⟩
    (.lst upd_same (is.mono (same_new z2))) (q n acc hI)
theorem lcx_start {A : Addr} {I : Nat → Nat → List D → Prop}
    (ok : Ok K l Z m B H σ ρ) (hA : H A = none) (h0 : I 0 m []) :
    LcX K l Z ρ σ B H A I 0 (upd H A (.lst [])) := by
  refine ⟨m, [], [], B, ok.aside hA, ⟨Same.refl B, fun z hz => ?_⟩,
    upd_same, .nil, h0, Nat.le_refl _⟩
  exact upd_ne fun e => (ok.zs z hz).1 (e ▸ hA)
/-- [e for i in range(n) if t] -/
theorem e_lcRx {j : Nat} (hj : ρ[j]? = some none)
    (h : AvC K l tA ρ m fun m1 x => ∃ z : Int, x = [.int z] ∧
      ∃ (c : Nat) (I : Nat → Nat → List D → Prop), z = c ∧ c ≤ 50000 ∧
      I 0 m1 [] ∧
      (∀ (i n : Nat) acc, i < c → I i n acc →
        TvC K l tt (ρ.set j (some (.dat (.int i)))) n fun n1 b =>
          if b = true then EvC K l te (ρ.set j (some (.dat (.int i)))) n1
            fun n2 y => I (i + 1) n2 (acc ++ [y]) else I (i + 1) n1 acc) ∧
      ∀ n acc, I c n acc → Φ n (.lst acc)) :
    EvC K l (tLc (iRng1 tA) (gName j) tt te [j]) ρ m Φ := by
  intro Z B H σ Q ok k
  refine h Z B H σ _ ok fun vs x m1 B1 H1 o1 f1 i1 g1 => ?_
  obtain ⟨z, rfl, c, I, rfl, hc, h0, hs, hd⟩ := g1
  obtain ⟨v, rfl, i2⟩ := isAll1 i1
  cases i2
  refine ⟨(c : Int), rfl, by omega, by omega, fun A hA => ?_⟩
  have hz : ¬ Z A := fun z => (o1.zs A z).1 hA
  refine lc_range (lo := 0) (n := (c : Int).toNat)
    (LcX K l Z ρ σ B1 H1 A I)
    (lcx_start o1 hA h0) (fun i H' hi w => ?_) fun H' w => ?_
  · rw [Int.toNat_natCast] at hi
    have e0 : (0 : Int) + (i : Int) = (i : Int) := Int.zero_add _
    rw [e0]
    exact lcx_turn (P := fun d => d = .int i) hz hj w
      (fun B' sb => ⟨_, .int _, rfl⟩) (by omega)
      fun d n acc e => by subst e; exact hs i n acc hi
  · rw [Int.toNat_natCast] at w
    exact lcx_end hz w hd fun v d m' B2 H2 o2 f2 i2 g2 =>
      k v d m' B2 H2 o2 (f1.trans f2) i2 g2
/-- the same, told by a test and a function of the number -/
theorem e_lcRxf {j : Nat} (hj : ρ[j]? = some none)
    (h : AvC K l tA ρ m fun m1 x => ∃ z : Int, x = [.int z] ∧
      ∃ (c : Nat) (p : Nat → Bool) (f : Nat → D), z = c ∧ c ≤ 50000 ∧
      (∀ i : Nat, i < c →
        TvC K l tt (ρ.set j (some (.dat (.int i)))) m1 fun n1 b => n1 = m1 ∧
          b = p i) ∧
      (∀ i : Nat, i < c → EvC K l te (ρ.set j (some (.dat (.int i)))) m1
        fun n2 y => n2 = m1 ∧ y = f i) ∧
      Φ m1 (.lst (((List.range c).filter p).map f))) :
    EvC K l (tLc (iRng1 tA) (gName j) tt te [j]) ρ m Φ := by
  refine e_lcRx hj (a_imp h fun m1 x q => ?_)
  obtain ⟨z, rfl, c, p, f, rfl, hc, ht, hb, hq⟩ := q
  refine ⟨_, rfl, c, fun i n acc => n = m1 ∧
    acc = ((List.range i).filter p).map f, rfl, hc, ⟨rfl, rfl⟩, ?_, ?_⟩
  · intro i n acc hi hI
    obtain ⟨rfl, rfl⟩ := hI
    refine t_imp (ht i hi) fun n1 b e => ?_
    obtain ⟨rfl, rfl⟩ := e
    cases e : p i with
    | true =>
      rw [if_pos rfl]
      refine e_imp (hb i hi) fun n2 y e2 => ?_
      obtain ⟨rfl, rfl⟩ := e2
      refine ⟨rfl, ?_⟩
      rw [List.range_succ, List.filter_append, List.map_append,
        List.filter_cons, e]
      rfl
    | false =>
      rw [if_neg Bool.false_ne_true]
      refine ⟨rfl, ?_⟩
      rw [List.range_succ, List.filter_append, List.map_append,
        List.filter_cons, e]
      simp
  · intro n acc hI
    obtain ⟨rfl, rfl⟩ := hI
    exact hq
/-- x = [..] * n that will be written -/
theorem s_repOwn {i : Nat} (h : EvC K l ta ρ m fun m1 x => EvC K l te ρ m1
      fun m2 y => ∃ xs, x = .lst xs ∧ ∃ z, y = .int z ∧ ∃ n : Nat, z = n ∧
        n ≤ 1000 ∧ xs.length ≤ 100 ∧
        Nx m2 (ρ.set i (some (.own (List.replicate n xs).flatten)))) :
    SvC K l (tAsg (tOp rRep ta te) (gName i)) ρ m Nx Rt := by
  intro Z B H σ W ok k _
  refine h Z B H σ _ ok fun v1 d1 m1 B1 H1 o1 f1 i1 g1 => ?_
  refine g1 Z B1 H1 σ _ o1 fun v2 d2 m2 B2 H2 o2 f2 i2 g2 => ?_
  obtain ⟨xs, rfl, z, rfl, n, rfl, hn, hl, q⟩ := g2
  have i1' := i1.mono f2.sub
  cases i2
  cases i1' with
  | @lst a vs _ ha isa =>
    refine ⟨a, n, vs, rfl, rfl, o2.sub _ _ ha, by omega, by omega, ?_,
      fun p hp => ?_⟩
    · rw [isa.length, Int.toNat_natCast, sizeLine_eq]
      have : xs.length * n ≤ 100 * 1000 := Nat.mul_le_mul hl hn
      omega
    · rw [Int.toNat_natCast]
      have hz : ¬ Z p := fun z => (o2.zs p z).1 hp
      refine k _ _ m2 B2 _ ((o2.aside
        (o := .lst (List.replicate n vs).flatten) hp).setOwn
        hz upd_same (isa.rep n)) ((f1.trans f2).trans
        ⟨Same.refl B2, fun z hz' => upd_ne fun e => hz (e ▸ hz')⟩) q
theorem IsAll.setAt {vs : List V} {ds : List D} {v : V} {d : D}
    (h : IsAll K B vs ds) (hv : Is K B v d) :
    ∀ n : Nat, IsAll K B (vs.set n v) (ds.set n d) := by
  intro n
  induction vs generalizing ds n with
  | nil => cases h; exact .nil
  | cons x xs ih =>
    cases h with
    | cons h1 h2 =>
      cases n with
      | zero => exact .cons hv h2
      | succ n => exact .cons h1 (ih h2 n)
theorem IsAll.erase {vs : List V} {ds : List D} (h : IsAll K B vs ds) :
    ∀ n : Nat, IsAll K B (vs.eraseIdx n) (ds.eraseIdx n) := by
  intro n
  induction vs generalizing ds n with
  | nil => cases h; exact .nil
  | cons x xs ih =>
    cases h with
    | cons h1 h2 =>
      cases n with
      | zero => exact h2
      | succ n => exact .cons h1 (ih h2 n)
/-- x[e] = v of an own list -/
theorem s_setOwn {i : Nat} {ds : List D} (hi : ρ[i]? = some (some (.own ds)))
    (h : EvC K l te ρ m fun m1 d => EvC K l ti ρ m1 fun m2 x => ∃ z,
      x = .int z ∧ ∃ k : Nat, z = k ∧ k < ds.length ∧
      Nx m2 (ρ.set i (some (.own (ds.set k d))))) :
    SvC K l (tAsg te (gSub (tVar i) ti rSetL)) ρ m Nx Rt := by
  intro Z B H σ W ok k _
  refine h Z B H σ _ ok fun v1 d1 m1 B1 H1 o1 f1 i1 g1 => ?_
  obtain ⟨v, e1, a, xs, rfl, q1, q2, q3, q4, q5⟩ := o1.sl i _ hi
  refine ⟨_, e1, ?_⟩
  refine g1 Z B1 H1 σ _ o1 fun v2 d2 m2 B2 H2 o2 f2 i2 g2 => ?_
  obtain ⟨z, rfl, c, rfl, hc, q⟩ := g2
  cases i2
  obtain ⟨v', e1', a', xs', hv, w1, w2, w3, w4, w5⟩ := o2.sl i _ hi
  subst hv
  rw [e1] at e1'
  cases e1'
  refine ⟨a, xs', c, c, rfl, rfl, w1, ?_, ?_⟩
  · unfold ixN
    rw [if_pos (by omega), w5.length]
    first
      | (rw [if_pos (by omega)]; simp)
      | simp [hc]
      | omega
  · obtain ⟨o3, f3⟩ := o2.grow hi e1 (w5.setAt (i1.mono f2.sub) c)
    exact k _ _ m2 B2 _ o3 ((f1.trans f2).trans f3) q
theorem s_parOwn2 {i j : Nat} (hij : i ≠ j)
    (h : EvC K l te ρ m fun m1 x => ∃ es, x.items = some es ∧
      Nx m1 ((ρ.set i (some (.own es))).set j (some (.own [])))) :
    SvC K l (tPar i j (tCons (tCB (rListQ K) (tCons te tNil))
      (tCons (tLst tNil) tNil))) ρ m Nx Rt := by
  intro Z B H σ W ok kk _
  refine h Z B H σ _ ok fun v d m1 B1 H1 o1 f1 i1 g1 => ?_
  obtain ⟨es, he, q⟩ := g1
  have : ∃ a us, v = .ref a ∧ (SqL K H1 a us ∨ SqT K H1 a us) ∧
      IsAll K B1 us es := by
    cases i1 with
    | lst h r => cases he; exact ⟨_, _, rfl, .inl (SqL.of (o1.sub _ _ h)), r⟩
    | tup h r _ => cases he; exact ⟨_, _, rfl, .inr (sameT o1.sub h), r⟩
    | _ => cases he
  obtain ⟨a, us, rfl, hs, r⟩ := this
  refine ⟨a, us, rfl, hs, fun p hp => ⟨Nat.zero_le _, fun p2 hp2 => ?_⟩⟩
  have hz : ¬ Z p := fun z => (o1.zs p z).1 hp
  have oA := o1.aside (o := .lst us) hp
  have hz2 : ¬ (Z p2 ∨ p2 = p) := fun z => (oA.zs p2 z).1 hp2
  have oB := oA.aside (o := .lst []) hp2
  have np : p ≠ p2 := fun e => hz2 (.inr e.symm)
  have h1 : upd (upd H1 p (.lst us)) p2 (.lst []) p = some (.lst us) := by
    rw [upd_ne np, upd_same]
  have oC := oB.setOwn (i := j) (ds := []) hz2 upd_same .nil
  have oD := oC.setOwn (i := i) (ds := es) hz h1 r
  rw [List.set_comm _ _ hij.symm, List.set_comm _ _ hij.symm (l := ρ)] at oD
  refine ⟨.ref p, .ref p2, rfl, kk _ _ m1 B1 _ oD ?_ q⟩
  refine f1.trans ⟨Same.refl B1, fun z hz' => ?_⟩
  rw [upd_ne (fun (e : z = p2) => hz2 (.inl (e ▸ hz'))),
    upd_ne (fun (e : z = p) => hz (e ▸ hz'))]
/-- t[a:b] of a list -/
theorem e_slL {tl th : TO}
    (h : EvC K l te ρ m fun m1 x => OvC K l tl ρ m1 fun m2 lo =>
      OvC K l th ρ m2 fun m3 hi => ∃ ds, x = .lst ds ∧
        Φ m3 (.lst (cutD ds lo hi))) :
    EvC K l (tSl (rSlL K) te tl th) ρ m Φ := by
  intro Z B H σ Q ok k
  refine h Z B H σ _ ok fun v x m1 B1 H1 o1 f1 i1 g1 => ?_
  refine g1 Z B1 H1 σ _ o1 fun lo m2 B2 H2 o2 f2 g2 => ?_
  refine g2 Z B2 H2 σ _ o2 fun hi m3 B3 H3 o3 f3 g3 => ?_
  obtain ⟨ds, rfl, q⟩ := g3
  have i3 := i1.mono (f2.trans f3).sub
  cases i3 with
  | @lst a us _ h r =>
    refine ⟨a, us, rfl, SqL.of (o3.sub _ _ h), fun p hp => ?_⟩
    obtain ⟨o4, f4⟩ := o3.new (o := .lst (cutV us lo hi)) hp
    exact k _ _ m3 _ _ o4 ((f1.trans (f2.trans f3)).trans f4)
      (.lst upd_same ((r.mono f4.sub).cut lo hi)) q
/-- own != [] -/
theorem t_ownNe {i kk ww : Nat} {ds : List D}
    (hi : ρ[i]? = some (some (.own ds)))
    (hd : Num kk ww (.lst ds)) (hkk : kk ≤ 64) (q : Θ m (!ds.isEmpty)) :
    TvC K l (tTest (tOp (rNeD K) (tVar i) (tLst tNil))) ρ m Θ := by
  intro Z B H σ Q ok k
  obtain ⟨v, e1, a, xs, rfl, q1, q2, q3, q4, q5⟩ := ok.sl i _ hi
  refine ⟨_, e1, Nat.zero_le _, fun p hp => ?_⟩
  have hap : a ≠ p := fun e => by rw [e, hp] at q1; cases q1
  have q1' : upd H p (.lst []) a = some (.lst xs) := by rw [upd_ne hap]; exact q1
  -- both are lists of the heap
  have fz : IsAll K (upd (upd B a (.lst xs)) p (.lst [])) xs ds :=
    q5.mono (fun b x e => by
      have n1 : b ≠ a := fun z => by rw [z, q2] at e; cases e
      have n2 : b ≠ p := fun z => by rw [z, ok.same0 hp] at e; cases e
      rw [upd_ne n2, upd_ne n1]; exact e)
  have sb : Same (upd (upd B a (.lst xs)) p (.lst [])) (upd H p (.lst [])) := by
    intro b x e
    by_cases n2 : b = p
    · subst n2; rw [upd_same] at e ⊢; exact e
    · rw [upd_ne n2] at e ⊢
      by_cases n1 : b = a
      · subst n1; rw [upd_same] at e; cases e; exact q1
      · rw [upd_ne n1] at e; exact ok.sub b x e
  have i1 : Is K (upd (upd B a (.lst xs)) p (.lst [])) (.ref a) (.lst ds) :=
    .lst (by rw [upd_ne hap, upd_same]) fz
  have i2 : Is K (upd (upd B a (.lst xs)) p (.lst [])) (.ref p) (.lst []) :=
    .lst upd_same .nil
  have n0 : Num 1 200000 (.lst []) :=
    (Num.lst (k := 0) (w := 1) (xs := []) fun x hx => by simp at hx).up
      (by omega) (by simp)
  have ev : (!PyData.eqv (D.lst ds).py (D.lst []).py) = !ds.isEmpty := by
    cases ds with
    | nil => rw [n0.same]; rfl
    | cons x xs => rw [hd.other n0 (by simp)]; rfl
  obtain ⟨o2, f2⟩ := ok.junk (o := .lst []) hp
  refine ⟨_, _, i1.dp sb (hd.eqs hkk).plain,
    i2.dp sb (n0.eqs (by omega)).plain, (hd.eqs hkk).shaped,
    (n0.eqs (by omega)).shaped, _, rfl, ?_⟩
  rw [ev]
  exact k _ m B _ o2 f2 q
/-- len(own) -/
theorem e_lenOwn {i : Nat} {ds : List D} (hi : ρ[i]? = some (some (.own ds)))
    (q : Φ m (.int ds.length)) :
    EvC K l (tCB (rLenQ K) (tCons (tVar i) tNil)) ρ m Φ := by
  intro Z B H σ Q ok k
  obtain ⟨v, e1, a, xs, rfl, q1, q2, q3, q4, q5⟩ := ok.sl i _ hi
  refine ⟨_, e1, a, xs, rfl, .inl (SqL.of q1), ?_⟩
  rw [q5.length]
  exact k _ _ m B H ok Fr.refl (.int _) q
/-- x.append(y.pop(e)) of two own lists -/
theorem s_popApp {i j : Nat} {ds es : List D}
    (hi : ρ[i]? = some (some (.own ds))) (hj : ρ[j]? = some (some (.own es)))
    (hij : i ≠ j) (hl : es.length < 100000)
    (h : EvC K l te ρ m fun m1 d => ∃ z, d = .int z ∧ ∃ k : Nat, z = k ∧
      k < 1000000 ∧ ∃ y, ds[k]? = some y ∧
      Nx m1 ((ρ.set i (some (.own (ds.eraseIdx k)))).set j
        (some (.own (es ++ [y]))))) :
    SvC K l (tDrop (tBM K "list" rAppend (tVar j) (tCons (tBM K "list"
      rPopAt (tVar i) (tCons te tNil)) tNil))) ρ m Nx Rt := by
  intro Z B H σ W ok k _
  obtain ⟨v, e1, a, xs, rfl, q1, q2, q3, q4, q5⟩ := ok.sl j _ hj
  refine ⟨_, e1, .inl ⟨rfl, _, SqL.of q1⟩, ?_⟩
  obtain ⟨v2, e2, b, ys, rfl, p1, p2, p3, p4, p5⟩ := ok.sl i _ hi
  refine ⟨_, e2, .inl ⟨rfl, _, SqL.of p1⟩, ?_⟩
  refine h Z B H σ _ ok fun v d m1 B1 H1 o1 f1 i1 g1 => ?_
  obtain ⟨z, rfl, c, rfl, hc, y, hy, q⟩ := g1
  cases i1
  obtain ⟨v', e2', b', ys', hv, w1, w2, w3, w4, w5⟩ := o1.sl i _ hi
  subst hv
  rw [e2] at e2'
  cases e2'
  obtain ⟨yv, hyv, iy⟩ := w5.got hy
  have hlt : c < ys'.length := (List.getElem?_eq_some_iff.mp hyv).1
  refine ⟨b, ys', c, c, yv, rfl, rfl, w1, by omega, by omega, ?_, hyv, ?_⟩
  · unfold seqIndex?
    simp only [Int.toNat_natCast]
    have e0 : (if (c : Int) < 0 then (c : Int) + (ys'.length : Int) else (c : Int)) = c := if_neg (by omega)
    simp [e0, hlt]
  · obtain ⟨o2, f2⟩ := o1.grow hi e2 (w5.erase c)
    have hj2 : (ρ.set i (some (.own (ds.eraseIdx c))))[j]? =
        some (some (.own es)) := by
      rw [List.getElem?_set_ne hij]; exact hj
    obtain ⟨v3, e3, a', xs', hv3, x1, x2, x3, x4, x5⟩ := o2.sl j _ hj2
    subst hv3
    rw [e1] at e3
    cases e3
    refine ⟨a, xs', yv, rfl, rfl, x1, ?_, ?_⟩
    · rw [x5.length]
      exact Nat.lt_of_lt_of_le hl (by decide)
    · obtain ⟨o3, f3⟩ := o2.grow hj2 e1 (x5.append (.cons iy .nil))
      exact k _ _ m1 B1 _ o3 ((f1.trans f2).trans f3) q
def SpF (K : PySem.W.Frag) (pre : Nat → List D → Prop)
    (Ψ : List D → Nat → Nat → List D → Prop) : Sp :=
  fun vs H Q _ => ∃ a ws B ds m, vs = .ref a :: ws ∧ Same B H ∧
    Hand H a m ∧ B a = none ∧ IsAll K B ws ds ∧ pre m ds ∧
    ∀ p xs es m' B2 H2, Hand H2 a m' → Same B B2 → Same B2 H2 →
      (∀ b o, b ≠ a → H b = some o → H2 b = some o) →
      (∀ b, H b ≠ none → B b = none → B2 b = none) →
      H p = none → B2 p = none → p ≠ a → H2 p = some (.lst xs) →
      IsAll K B2 xs es → Ψ ds m m' es → Q (.ref p) H2
theorem body_F {pre : Nat → List D → Prop}
    {Ψ : List D → Nat → Nat → List D → Prop} {vs : List V}
    {Q : VK} {E : XK} {N : List Str} {j : Nat} (h : SpF K pre Ψ vs H Q E)
    (hb : ∀ a ds m, pre m ds → vs.length = ds.length + 1 →
      SvC K (some a) ts (some .hand :: (datR ds ++
        List.replicate (N.length - (ds.length + 1)) none))
        m (fun m' ρ' => ∃ es, ρ'[j]? = some (some (.own es)) ∧ Ψ ds m m' es)
        fun _ _ => False) :
    tSeq ts (tRet (tVar j)) { nx := fun _ H' => Q .non H', rt := Q }
      (start N vs) H := by
  obtain ⟨a, ws, B, ds, m, rfl, sb, hh, hB, is, hp, k⟩ := h
  have hl := is.length
  have ok : Ok K (some a) (fun b => H b ≠ none ∧ B b = none ∧ b ≠ a) m B H
      (start N (.ref a :: ws)) (some .hand :: (datR ds ++
        List.replicate (N.length - (ds.length + 1)) none)) := by
    refine ⟨⟨sb, fun b e => ?_, fun z h => ⟨h.1, h.2.1, fun e => ?_⟩⟩,
      ?_, fun i s e => ?_, fun i j ds1 es b n po p2 e1 => ?_⟩
    · cases e
      exact ⟨hh, hB⟩
    · cases e
      exact h.2.2 rfl
    · unfold L2.start datR
      simp [hl]
    · cases i with
      | zero =>
        cases e
        exact ⟨.ref a, rfl, a, rfl, rfl⟩
      | succ i =>
        rw [List.getElem?_cons_succ] at e
        rcases Nat.lt_or_ge i ds.length with hi | hi
        · rw [List.getElem?_append_left (by unfold datR; simpa using hi)] at e
          obtain ⟨v, e2, q⟩ := isAll_get (l := some a)
            (Z := fun b => H b ≠ none ∧ B b = none ∧ b ≠ a) (H := H) is e
          refine ⟨v, ?_, q⟩
          unfold L2.start
          rw [List.map_cons, List.cons_append, List.getElem?_cons_succ,
            List.getElem?_append_left (by simpa [hl] using hi)]
          exact e2
        · rw [List.getElem?_append_right (by unfold datR; simpa using hi)] at e
          rw [List.getElem?_replicate] at e
          split at e <;> cases e
    · cases i with
      | zero => cases e1; cases po
      | succ i =>
        rw [List.getElem?_cons_succ] at e1
        rcases Nat.lt_or_ge i ds.length with hi | hi
        · rw [List.getElem?_append_left (by unfold datR; simpa using hi)] at e1
          unfold datR at e1
          rw [List.getElem?_map] at e1
          cases q : ds[i]? with
          | none => rw [q] at e1; cases e1
          | some d => rw [q] at e1; cases e1; cases po
        · rw [List.getElem?_append_right (by unfold datR; simpa using hi)] at e1
          rw [List.getElem?_replicate] at e1
          split at e1 <;> cases e1
  refine hb a ds m hp (by simp [hl]) _ B H _ _ ok
    (fun σ' ρ' m' B2 H2 o2 f2 g2 => ?_) fun v d m' B2 H2 o2 f2 i2 g2 => g2.elim
  obtain ⟨es, he, hΨ⟩ := g2
  obtain ⟨v, e1, p, xs, rfl, q1, q2, q3, q4, q5⟩ := o2.sl j _ he
  refine ⟨_, e1, ?_⟩
  have npa : p ≠ a := fun e => q4 (e ▸ rfl)
  have fresh : H p = none := by
    cases w : H p with
    | none => rfl
    | some o =>
      exfalso
      cases y : B p with
      | none => exact q3 ⟨by rw [w]; exact nofun, y, npa⟩
      | some x => rw [f2.sub p x y] at q2; cases q2
  refine k p xs es m' B2 H2 (o2.hand a rfl).1 f2.sub o2.sub
    (fun b o n e => ?_) (fun b h1 h2 => ?_) fresh q2 npa q1 q5 hΨ
  · cases q : B b with
    | none =>
      rw [f2.kept b ⟨by rw [e]; exact nofun, q, n⟩]
      exact e
    | some x =>
      rw [sb b x q] at e
      cases e
      exact o2.sub b _ (f2.sub b _ q)
  · by_cases n : b = a
    · subst n
      exact (o2.hand b rfl).2
    · exact (o2.zs b ⟨h1, h2, n⟩).2.1
theorem body_F2 {pre : Nat → List D → Prop}
    {Ψ : List D → Nat → Nat → List D → Prop} {vs : List V} {t1 t2 : TS}
    {Q : VK} {E : XK} {N : List Str} {j : Nat} (h : SpF K pre Ψ vs H Q E)
    (hb : ∀ a ds m, pre m ds → vs.length = ds.length + 1 →
      SvC K (some a) (tSeq t1 t2) (some .hand :: (datR ds ++
        List.replicate (N.length - (ds.length + 1)) none))
        m (fun m' ρ' => ∃ es, ρ'[j]? = some (some (.own es)) ∧ Ψ ds m m' es)
        fun _ _ => False) :
    tSeq t1 (tSeq t2 (tRet (tVar j))) { nx := fun _ H' => Q .non H', rt := Q }
      (start N vs) H := body_F (ts := tSeq t1 t2) h hb
/-- an expression that is a new list -/
def EvF (K : PySem.W.Frag) (l : Option Addr) (te : TE) (ρ : Ro) (m : Nat)
    (Ψ : Nat → List D → Prop) : Prop :=
  ∀ Z B H σ (Q : VK), Ok K l Z m B H σ ρ →
    (∀ p xs es m' B2 H2, Ok K l (fun a => Z a ∨ a = p) m' B2 H2 σ ρ →
      Fr Z B H B2 H2 → ¬ Z p → H2 p = some (.lst xs) → IsAll K B2 xs es →
      Ψ m' es → Q (.ref p) H2) → te σ H Q
theorem f_call {pre : Nat → List D → Prop}
    {Ψ : List D → Nat → Nat → List D → Prop} {Ξ : Nat → List D → Prop}
    {E : XK} {i : Nat} (hi : ρ[i]? = some (some .hand))
    (h : AvC K l tA ρ m fun m1 ds => pre m1 ds ∧
      ∀ m2 es, Ψ ds m1 m2 es → Ξ m2 es) :
    EvF K l (tCall (SpF K pre Ψ) [] E (tCons (tVar i) tA)) ρ m Ξ := by
  intro Z B H σ Q ok k
  obtain ⟨v0, e0, a, ha, hv⟩ := ok.sl i _ hi
  subst hv
  refine ⟨_, e0, ?_⟩
  refine h Z B H σ _ ok fun vs ds m1 B1 H1 o1 f1 i1 g1 => ?_
  show SpF K pre Ψ (V.ref a :: vs ++ []) H1 Q E
  rw [List.append_nil]
  refine ⟨a, vs, B1, ds, m1, rfl, o1.sub, (o1.hand a ha).1,
    (o1.hand a ha).2, i1, g1.1,
    fun p xs es m2 B2 H2 hh s1 s2 s3 s4 hp hp2 hpa e is hq => ?_⟩
  obtain ⟨o2, f2⟩ := o1.step (m' := m2) s1 s2
    (fun b e => by rw [ha] at e; cases e; exact hh)
    (fun b o n e => s3 b o (fun z => n (z ▸ ha)) e) s4
  have hz : ¬ Z p := fun z => (o1.zs p z).1 hp
  refine k p xs es m2 B2 H2 ?_ (f1.trans f2) hz e is (g1.2 m2 es hq)
  have own_ne : ∀ (i : Nat) ds b, ρ[i]? = some (some (.own ds)) →
      σ[i]? = some (some (.ref b)) → b ≠ p := by
    intro i ds b e1 e2 z
    obtain ⟨v, e3, b', xs', hv, w1, _⟩ := o1.sl i _ e1
    subst hv
    rw [e2] at e3
    cases e3
    rw [z, hp] at w1
    cases w1
  refine ⟨⟨o2.sub, o2.hand, fun z q => ?_⟩, o2.len, fun i s e1 => ?_, o2.dis⟩
  · rcases q with q | rfl
    · exact o2.zs z q
    · refine ⟨by rw [e]; exact nofun, hp2, fun w => hpa ?_⟩
      rw [ha] at w
      exact (Option.some.inj w).symm
  · obtain ⟨v, e2, q⟩ := o2.sl i s e1
    refine ⟨v, e2, ?_⟩
    cases s with
    | dat d => exact q
    | hand => exact q
    | own ds =>
      obtain ⟨b, ys, rfl, w1, w2, w3, w4, w5⟩ := q
      refine ⟨b, ys, rfl, w1, w2, fun z => ?_, w4, w5⟩
      rcases z with z | z
      · exact w3 z
      · exact own_ne i ds b e1 e2 z
    | obj R =>
      obtain ⟨b, ys, rfl, w1, w2, w3, w4, w5⟩ := q
      refine ⟨b, ys, rfl, w1, w2, fun z => ?_, w4, w5⟩
      rcases z with z | z
      · exact w3 z
      · obtain ⟨v, e3, b', xs', hv, u1, _⟩ := o1.sl i _ e1
        subst hv
        rw [e2] at e3
        cases e3
        rw [z, hp] at u1
        cases u1
end
end Wt

namespace Wt
open PySem PySem.Spec PyProof.Rows L2
abbrev rDct (K : PySem.W.Frag) : List V → Hp → VK → Prop := fun xs H Q =>
  ∃ (a : Addr) (ps : List Addr) (kvs : List (Key × V)), xs = [.ref a] ∧
    SqL K H a (ps.map V.ref) ∧
    Paired (fun p kv => SqT K H p [kV kv.1, kv.2]) ps kvs ∧
    ∀ p, H p = none → Q (.ref p) (upd H p (.dK (mergeK [] kvs)))
theorem paired_of {α β : Type} {R : α → β → Prop} : ∀ {xs : List α}
    {ys : List β}, xs.length = ys.length →
    (∀ (c : Nat) x y, xs[c]? = some x → ys[c]? = some y → R x y) →
    Paired R xs ys
  | [], [], _, _ => .nil
  | x :: xs, y :: ys, h, r => .cons (r 0 x y rfl rfl)
    (paired_of (by simpa using h) fun c a b e1 e2 =>
      r (c + 1) a b (by simpa using e1) (by simpa using e2))
  | [], _ :: _, h, _ => by simp at h
  | _ :: _, [], h, _ => by simp at h
theorem merge_val : ∀ (more kvs : List (Key × V)) (k : Key),
    (∃ v, (k, v) ∈ more) → ∃ (c : Nat) (v : V), more[c]? = some (k, v) ∧
      valV (mergeK kvs more) k = some v
  | [], _, _, h => by obtain ⟨v, hv⟩ := h; simp at hv
  | (k0, v0) :: r, kvs, k, h => by
    show ∃ (c : Nat) (v : V), _ ∧ valV (mergeK (putK kvs k0 v0) r) k = some v
    by_cases hr : ∃ v, (k, v) ∈ r
    · obtain ⟨c, v, h1, h2⟩ := merge_val r (putK kvs k0 v0) k hr
      exact ⟨c + 1, v, by simpa using h1, h2⟩
    · have e : k = k0 := by
        obtain ⟨v, hv⟩ := h
        rcases List.mem_cons.mp hv with z | z
        · exact (Prod.mk.inj z).1
        · exact absurd ⟨v, z⟩ hr
      subst e
      refine ⟨0, v0, rfl, ?_⟩
      have keep : ∀ (r kvs : List (Key × V)), (¬ ∃ v, (k, v) ∈ r) →
          valV (mergeK kvs r) k = valV kvs k := by
        intro r
        induction r with
        | nil => intro kvs _; rfl
        | cons p r ih =>
          intro kvs hn
          show valV (mergeK (putK kvs p.1 p.2) r) k = _
          rw [ih _ (fun ⟨v, hv⟩ => hn ⟨v, List.mem_cons_of_mem _ hv⟩),
            valV_put, if_neg]
          intro e
          exact hn ⟨p.2, by rw [e]; exact List.mem_cons_self⟩
      rw [keep r _ hr, valV_put, if_pos rfl]
section
variable {K : PySem.W.Frag} {l : Option Addr} {ρ : Ro} {m : Nat}
variable {Nx : Nat → Ro → Prop} {Rt : Nat → D → Prop}
variable {Z : Addr → Prop} {B H : Hp} {σ : L2.St}
theorem ints_of : ∀ {xs : List V} {L : List Int},
    IsAll K B xs (L.map D.int) → xs = L.map V.int
  | _, [], h => by cases h; rfl
  | _, n :: L, h => by
    cases h with
    | cons h r => cases h; rw [ints_of r]; rfl
theorem isAll_ints (L : List Int) : IsAll K B (L.map V.int) (L.map D.int) := by
  induction L with
  | nil => exact .nil
  | cons n L ih => exact .cons (.int n) ih
/-- what was popped, place by place -/
def PopR (hs : List Int) (pos : Int → List Int) (L : List Int) : Prop :=
  ∃ perm : Int → List Int, (∀ h ∈ hs, (perm h).Perm (pos h)) ∧
    L.length = hs.length ∧ ∀ (i : Nat) h, hs[i]? = some h →
      L[i]? = (perm h)[hs.count h - 1 - (hs.take i).count h]?
structure DW (K : PySem.W.Frag) (l : Option Addr) (Z : Addr → Prop) (ρ : Ro)
    (σ : L2.St) (B H : Hp) (A : Addr) (hs : List Int) (pos : Int → List Int)
    (i n : Nat) (B' H' : Hp) (ps qs : List Addr) (Ls : List (List Int)) :
    Prop where
  ok : Ok K l (fun a => Z a ∨ a = A ∨ a ∈ ps ∨ a ∈ qs) n B' H' σ ρ
  fr : Fr Z B H B' H'
  hA : H' A = some (.lst (ps.map V.ref))
  l1 : ps.length = i
  l2 : qs.length = i
  l3 : Ls.length = i
  tup : ∀ (c : Nat) p h q, ps[c]? = some p → hs[c]? = some h →
    qs[c]? = some q → ∃ o, H' p = some (.frz o (.tup [.int h, .ref q]))
  lst : ∀ (c : Nat) q L, qs[c]? = some q → Ls[c]? = some L →
    H' q = some (.lst (L.map V.int))
  nd : qs.Nodup
  nA : A ∉ ps ∧ A ∉ qs
  nz : ∀ q ∈ qs, ¬ Z q
  perm : ∀ (c : Nat) h L, hs[c]? = some h → Ls[c]? = some L → L.Perm (pos h)
theorem get_snoc2 {α : Type} {xs : List α} {y z : α} {c : Nat}
    (h : (xs ++ [y])[c]? = some z) :
    xs[c]? = some z ∨ c = xs.length ∧ z = y := by
  by_cases hc : c < xs.length
  · rw [List.getElem?_append_left hc] at h
    exact .inl h
  · have hc2 : c = xs.length := by
      have := (List.getElem?_eq_some_iff.mp h).1
      simp at this
      omega
    subst hc2
    rw [List.getElem?_append_right (Nat.le_refl _)] at h
    simp at h
    exact .inr ⟨rfl, h.symm⟩
theorem lt_get {α : Type} {xs : List α} {z : α} {c : Nat}
    (h : xs[c]? = some z) : c < xs.length := (List.getElem?_eq_some_iff.mp h).1
theorem dw_turn {A : Addr} {hs : List Int} {pos : Int → List Int}
    {i n k h : Nat} {B' H' : Hp} {ps qs : List Addr} {Ls : List (List Int)}
    {tM : TE} {hue : Int} {R : Hp → Prop} (hz : ¬ Z A) (hh : ρ[h]? = some none)
    (w : DW K l Z ρ σ B H A hs pos i n B' H' ps qs Ls) (hi : hs[i]? = some hue)
    (hi2 : i < 100000)
    (hF : EvF K l tM (ρ.set h (some (.dat (.int hue)))) n fun n2 es =>
      n2 ≤ n + k ∧ ∃ L : List Int, es = L.map D.int ∧ L.Perm (pos hue))
    (hR : ∀ n2 B2 H2 ps2 qs2 Ls2, n2 ≤ n + k →
      DW K l Z ρ σ B H A hs pos (i + 1) n2 B2 H2 ps2 qs2 Ls2 → R H2) :
    gName h (.int hue) (wipe σ [h]) H' fun σ2 H2 => wipe σ2 [h] = wipe σ [h] ∧
      tYes σ2 H2 fun b H3 => if b = true then
        tTupC (tCons (tVar h) (tCons tM tNil)) σ2 H3 fun y H4 =>
          ∃ acc, H4 A = some (.lst acc) ∧ acc.length < sizeLine ∧
            R (upd H4 A (.lst (acc ++ [y])))
      else R H3 := by
  have e1 : (wipe σ [h]).set h (some (.int hue)) = σ.set h (some (.int hue)) := by
    show (σ.set h none).set h _ = _
    rw [List.set_set]
  unfold gName tYes
  dsimp only
  rw [e1, if_pos rfl]
  have hlt : h < σ.length := by
    rw [w.ok.len]; exact lt_get hh
  refine ⟨?_, ?_⟩
  · show (σ.set h (some (.int hue))).set h none = σ.set h none
    rw [List.set_set]
  refine ⟨.int hue, List.getElem?_set_self hlt, ?_⟩
  refine hF _ B' H' _ _ (w.ok.set (.int hue))
    fun q xs es n2 B2 H2 o2 f2 hq eq2 is hΨ => ?_
  obtain ⟨hn2, L, rfl, hL⟩ := hΨ
  cases ints_of is
  refine ⟨by show 2 ≤ sizeLine; decide, fun T ob hT _ _ => ?_⟩
  have oT := o2.aside (o := .frz ob (.tup [.int hue, .ref q])) hT
  have nT : ∀ z, (Z z ∨ z = A ∨ z ∈ ps ∨ z ∈ qs) ∨ z = q → z ≠ T :=
    fun z hz e => (o2.zs z hz).1 (e ▸ hT)
  have kp : ∀ z, (Z z ∨ z = A ∨ z ∈ ps ∨ z ∈ qs) →
      upd H2 T (.frz ob (.tup [.int hue, .ref q])) z = H' z := fun z hz => by
    rw [upd_ne (nT z (.inl hz))]; exact f2.kept z hz
  have hqA : q ≠ A := fun e => hq (.inr (.inl e))
  have hqp : q ∉ ps := fun e => hq (.inr (.inr (.inl e)))
  have hqq : q ∉ qs := fun e => hq (.inr (.inr (.inr e)))
  have hTA : T ≠ A := fun e => nT A (.inl (.inr (.inl rfl))) e.symm
  refine ⟨ps.map V.ref, (kp A (.inr (.inl rfl))).trans w.hA, ?_, hR n2 B2 _
    (ps ++ [T]) (qs ++ [q]) (Ls ++ [L]) hn2 ?_⟩
  · rw [List.length_map, w.l1]
    exact Nat.lt_of_lt_of_le hi2 (by decide)
  have oW := (oT.write (p := A) (o := .lst ((ps ++ [T]).map V.ref))
    (.inl (.inl (.inr (.inl rfl))))).unset hh
  have up : ∀ z, z ≠ A → upd (upd H2 T (.frz ob (.tup [.int hue, .ref q]))) A
      (.lst ((ps ++ [T]).map V.ref)) z = upd H2 T (.frz ob (.tup [.int hue, .ref q])) z :=
    fun z hz => upd_ne hz
  rw [show ps.map V.ref ++ [V.ref T] = (ps ++ [T]).map V.ref by
    rw [List.map_append]; rfl]
  constructor
  · refine oW.less fun z hz => ?_
    rcases hz with hz | hz | hz | hz
    · exact .inl (.inl (.inl hz))
    · exact .inl (.inl (.inr (.inl hz)))
    · rcases List.mem_append.mp hz with hz | hz
      · exact .inl (.inl (.inr (.inr (.inl hz))))
      · exact .inr (List.mem_singleton.mp hz)
    · rcases List.mem_append.mp hz with hz | hz
      · exact .inl (.inl (.inr (.inr (.inr hz))))
      · exact .inl (.inr (List.mem_singleton.mp hz))
  · refine ⟨w.fr.sub.trans f2.sub, fun z hz' => ?_⟩
    rw [up z (fun e => hz (e ▸ hz')), kp z (.inl hz')]
    exact w.fr.kept z hz'
  · exact upd_same
  · simp [w.l1]
  · simp [w.l2]
  · simp [w.l3]
  · intro c p h' q' e1 e2 e3
    rcases get_snoc2 e1 with a1 | ⟨a1, rfl⟩
    · have hc : c < ps.length := lt_get a1
      have e3' : qs[c]? = some q' := by
        rw [List.getElem?_append_left (by rw [w.l2, ← w.l1]; exact hc)] at e3
        exact e3
      have hp := List.mem_of_getElem? a1
      rw [up p (fun e => w.nA.1 (e ▸ hp)), kp p (.inr (.inr (.inl hp)))]
      exact w.tup c p h' q' a1 e2 e3'
    · rw [w.l1] at a1
      subst a1
      rw [hi] at e2
      cases e2
      have e3' : q' = q := by
        rcases get_snoc2 e3 with a | ⟨_, a⟩
        · have := lt_get a
          rw [w.l2] at this
          omega
        · exact a
      subst e3'
      exact ⟨ob, by rw [up _ hTA, upd_same]⟩
  · intro c q' L' e1 e2
    rcases get_snoc2 e1 with a1 | ⟨a1, rfl⟩
    · have hc : c < qs.length := lt_get a1
      have e2' : Ls[c]? = some L' := by
        rw [List.getElem?_append_left (by rw [w.l3, ← w.l2]; exact hc)] at e2
        exact e2
      have hp := List.mem_of_getElem? a1
      rw [up q' (fun e => w.nA.2 (e ▸ hp)), kp q' (.inr (.inr (.inr hp)))]
      exact w.lst c q' L' a1 e2'
    · rw [w.l2] at a1
      subst a1
      have e2' : L' = L := by
        rcases get_snoc2 e2 with a | ⟨_, a⟩
        · have := lt_get a
          rw [w.l3] at this
          omega
        · exact a
      subst e2'
      rw [up _ hqA, upd_ne (nT _ (.inr rfl))]
      exact eq2
  · rw [List.nodup_append]
    refine ⟨w.nd, by simp, fun a ha b hb => ?_⟩
    rw [List.mem_singleton] at hb
    subst hb
    exact fun e => hqq (e ▸ ha)
  · refine ⟨fun e => ?_, fun e => ?_⟩
    · rcases List.mem_append.mp e with e | e
      · exact w.nA.1 e
      · exact hTA (List.mem_singleton.mp e).symm
    · rcases List.mem_append.mp e with e | e
      · exact w.nA.2 e
      · exact hqA (List.mem_singleton.mp e).symm
  · intro q' hq' z
    rcases List.mem_append.mp hq' with e | e
    · exact w.nz q' e z
    · rw [List.mem_singleton] at e
      subst e
      exact hq (.inl z)
  · intro c h' L' e1 e2
    rcases get_snoc2 e2 with a1 | ⟨a1, rfl⟩
    · exact w.perm c h' L' e1 a1
    · rw [w.l3] at a1
      subst a1
      rw [hi] at e1
      cases e1
      exact hL
theorem count_take {hs : List Int} {i : Nat} {h g : Int} (hi : hs[i]? = some h) :
    (hs.take (i + 1)).count g = (hs.take i).count g + if h = g then 1 else 0 := by
  rw [take_snoc' hi, List.count_append, List.count_singleton]
  by_cases e : h = g
  · simp [e]
  · simp [e]
theorem count_lt {hs : List Int} {i : Nat} {h : Int} (hi : hs[i]? = some h) :
    (hs.take i).count h < hs.count h := by
  have h1 := count_take (g := h) hi
  rw [if_pos rfl] at h1
  have h2 : (hs.take (i + 1)).count h ≤ hs.count h :=
    List.Sublist.count_le _ (List.take_sublist _ _)
  omega
theorem drop_last_take {α : Type} {xs : List α} {n : Nat} (h0 : 0 < n)
    (hn : n ≤ xs.length) : (xs.take n).dropLast = xs.take (n - 1) := by
  rw [List.dropLast_eq_take, List.take_take, List.length_take]
  congr 1
  omega
/-- the body of a def that draws an order of all that keeps a sort -/
theorem s_leads {h d k : Nat} {hs : List Int} {pos : Int → List Int} {tM : TE}
    (hh : ρ[h]? = some none) (hd : ρ[d]? = some none) (hhd : h ≠ d)
    (h1 : ρ[1]? = some (some (.dat (.tup (hs.map D.int)))))
    (hl : hs.length ≤ 1000) (hpos : ∀ g, (pos g).length = hs.count g)
    (hF : ∀ (i n : Nat) g, hs[i]? = some g → n ≤ m + k * i →
      EvF K l tM (ρ.set h (some (.dat (.int g)))) n fun n2 es =>
        n2 ≤ n + k ∧ ∃ L : List Int, es = L.map D.int ∧ L.Perm (pos g))
    (hq : ∀ n L, n ≤ m + k * hs.length → PopR hs pos L →
      Rt n (.tup (L.map D.int))) :
    SvC K l (tSeq (tAsg (tCB (rDct K) (tCons (tLc (iTup K (tVar 1)) (gName h)
        tYes (tTupC (tCons (tVar h) (tCons tM tNil))) [h]) tNil)) (gName d))
      (tRet (tCB (rTupC K) (tCons (tLc (iTup K (tVar 1)) (gName h) tYes
        (tBM0 K "list" rPop (tDGet (tVar d) (tVar h))) [h]) tNil))))
      ρ m Nx Rt := by
  intro Z B H σ W ok _ jr
  obtain ⟨v1, e1, z1⟩ := ok.sl 1 _ h1
  refine ⟨v1, e1, ?_⟩
  cases z1 with
  | @tup a us _ hT is =>
  have eus := ints_of is
  subst eus
  refine ⟨a, rfl, ⟨_, sameT ok.sub hT⟩, fun A hA => ?_⟩
  have hz : ¬ Z A := fun z => (ok.zs A z).1 hA
  refine lc_tup (xs := hs.map V.int) (fun i H' => ∃ n B' ps qs Ls,
    n ≤ m + k * i ∧ DW K l Z ρ σ B H A hs pos i n B' H' ps qs Ls)
    ⟨m, B, [], [], [], by omega, ?_⟩ (fun i H' _ w => ?_) (fun i x H' e w => ?_)
    fun H' w => ?_
  · refine ⟨?_, ?_, upd_same, rfl, rfl, rfl, ?_, ?_, .nil, ?_, ?_, ?_⟩
    · refine (ok.aside (o := .lst []) hA).less fun z hz => ?_
      rcases hz with hz | hz | hz | hz
      · exact .inl hz
      · exact .inr hz
      · simp at hz
      · simp at hz
    · exact ⟨Same.refl B, fun z hz' => upd_ne fun e => hz (e ▸ hz')⟩
    · intro c p h' q e; simp at e
    · intro c q L e; simp at e
    · simp
    · intro q hq; simp at hq
    · intro c h' L _ e; simp at e
  · obtain ⟨n, B', ps, qs, Ls, _, w⟩ := w
    exact sameT w.ok.sub (sameT w.fr.sub hT)
  · obtain ⟨n, B', ps, qs, Ls, hn, w⟩ := w
    rw [List.getElem?_map] at e
    cases eg : hs[i]? with
    | none => rw [eg] at e; cases e
    | some g =>
      rw [eg] at e
      cases e
      have hi := lt_get eg
      refine dw_turn (k := k) hz hh w eg (by omega) (hF i n g eg hn)
        fun n2 B2 H2 ps2 qs2 Ls2 h2 w2 => ⟨n2, B2, ps2, qs2, Ls2, ?_, w2⟩
      rw [Nat.mul_add, Nat.mul_one]
      omega
  · obtain ⟨n, B', ps, qs, Ls, hn, w⟩ := w
    rw [List.length_map] at hn w
    have l1 := w.l1
    have l2 := w.l2
    have l3 := w.l3
    refine ⟨A, ps, (hs.zip qs).map fun x => (Sum.inl x.1, V.ref x.2), rfl,
      SqL.of w.hA, paired_of (by simp; omega) (fun c p kv e2 e3 => ?_),
      fun Dd hDd => ?_⟩
    · have kvs_at := e3
      rw [List.getElem?_map] at kvs_at
      cases ez : (hs.zip qs)[c]? with
      | none => rw [ez] at kvs_at; cases kvs_at
      | some y =>
        rw [ez] at kvs_at
        cases kvs_at
        obtain ⟨y1, y2⟩ := List.getElem?_zip_eq_some.mp ez
        obtain ⟨o, ho⟩ := w.tup c p y.1 y.2 e2 y1 y2
        exact sqF ho
    -- the dict
    have look : ∀ g, ∃ x : Addr × List Int, g ∈ hs → ∃ c : Nat,
        hs[c]? = some g ∧ qs[c]? = some x.1 ∧ Ls[c]? = some x.2 ∧
        valV (mergeK [] ((hs.zip qs).map fun x => ((Sum.inl x.1 : Key), V.ref x.2)))
          (Sum.inl g) = some (.ref x.1) := by
      intro g
      by_cases hg : g ∈ hs
      · obtain ⟨c0, hc0⟩ := List.getElem?_of_mem hg
        have hc0l := lt_get hc0
        obtain ⟨q0, hq0⟩ : ∃ q, qs[c0]? = some q :=
          ⟨qs[c0]'(by omega), List.getElem?_eq_getElem _⟩
        obtain ⟨c, v, hv, hval⟩ := merge_val
          ((hs.zip qs).map fun x => ((Sum.inl x.1 : Key), V.ref x.2)) [] (Sum.inl g)
          ⟨.ref q0, List.mem_map.mpr ⟨(g, q0), List.mem_of_getElem? (i := c0)
            (List.getElem?_zip_eq_some.mpr ⟨hc0, hq0⟩), rfl⟩⟩
        rw [List.getElem?_map] at hv
        cases ez : (hs.zip qs)[c]? with
        | none => rw [ez] at hv; cases hv
        | some y =>
          rw [ez] at hv
          have e5 := Prod.mk.inj (Option.some.inj hv)
          obtain ⟨y1, y2⟩ := List.getElem?_zip_eq_some.mp ez
          have hcl := lt_get y2
          obtain ⟨L0, hL0⟩ : ∃ L, Ls[c]? = some L :=
            ⟨Ls[c]'(by omega), List.getElem?_eq_getElem _⟩
          refine ⟨(y.2, L0), fun _ => ⟨c, ?_, y2, hL0, ?_⟩⟩
          · rw [y1, Sum.inl.inj e5.1]
          · rw [hval, ← e5.2]
      · exact ⟨(0, []), fun z => absurd z hg⟩
    obtain ⟨f, hf⟩ := Classical.axiomOfChoice look
    generalize mergeK [] ((hs.zip qs).map fun x => ((Sum.inl x.1 : Key), V.ref x.2)) = KV at hf
    have qZ : ∀ g ∈ hs, (f g).1 ∈ qs := fun g hg => by
      obtain ⟨c, _, c2, _⟩ := hf g hg
      exact List.mem_of_getElem? c2
    have qinj : ∀ g ∈ hs, ∀ g' ∈ hs, g ≠ g' → (f g).1 ≠ (f g').1 := by
      intro g hg g' hg' n e
      obtain ⟨c, c1, c2, _⟩ := hf g hg
      obtain ⟨c', c1', c2', _⟩ := hf g' hg'
      have : c = c' := by
        have x1 := lt_get c2
        refine (List.getElem?_inj x1 w.nd).mp ?_
        rw [c2, c2', e]
      subst this
      rw [c1] at c1'
      exact n (Option.some.inj c1')
    have okA := w.ok.aside (o := .dK KV) hDd
    have ne : ∀ z, (Z z ∨ z = A ∨ z ∈ ps ∨ z ∈ qs) → z ≠ Dd :=
      fun z hz e => (w.ok.zs z hz).1 (e ▸ hDd)
    have h1a : (upd H' Dd (.dK KV)) Dd = some (.dK KV) := upd_same
    -- the second row
    have okB : Ok K l (fun a => Z a ∨ a = Dd ∨ a ∈ qs) n B'
        (upd H' Dd (.dK KV)) (σ.set d (some (.ref Dd))) ρ := by
      refine (okA.any hd).less fun z hz => ?_
      rcases hz with hz | hz | hz
      · exact .inl (.inl hz)
      · exact .inr hz
      · exact .inl (.inr (.inr (.inr hz)))
    have frB : Fr Z B H B' (upd H' Dd (.dK KV)) :=
      ⟨w.fr.sub, fun z hz' => by
        rw [upd_ne (ne z (.inl hz'))]; exact w.fr.kept z hz'⟩
    have qat : ∀ g ∈ hs, upd H' Dd (.dK KV) (f g).1 =
        some (.lst ((f g).2.map V.int)) ∧ (f g).2.Perm (pos g) := by
      intro g hg
      obtain ⟨c, c1, c2, c3, _⟩ := hf g hg
      refine ⟨?_, w.perm c g _ c1 c3⟩
      rw [upd_ne (ne _ (.inr (.inr (.inr (qZ g hg)))))]
      exact w.lst c _ _ c2 c3
    obtain ⟨v1', e1', z1'⟩ := okB.sl 1 _ h1
    refine ⟨v1', e1', ?_⟩
    generalize upd H' Dd (.dK KV) = H2 at *
    cases z1' with
    | @tup a2 us2 _ hT2 is2 =>
    have eus := ints_of is2
    subst eus
    refine ⟨a2, rfl, ⟨_, sameT okB.sub hT2⟩, fun A2 hA2 => ?_⟩
    have oC := okB.aside (o := .lst []) hA2
    have nA2 : ∀ z, (Z z ∨ z = Dd ∨ z ∈ qs) → z ≠ A2 :=
      fun z hz e => (okB.zs z hz).1 (e ▸ hA2)
    have hA2z : ¬ Z A2 := fun z => nA2 A2 (.inl z) rfl
    refine lc_tup (xs := hs.map V.int) (fun i H3 => ∃ (L : List Int) (B3 : Hp),
      Ok K l (fun a => (Z a ∨ a = Dd ∨ a ∈ qs) ∨ a = A2) n B3 H3
        (σ.set d (some (.ref Dd))) ρ ∧ Fr Z B H B3 H3 ∧ Same B' B3 ∧
      H3 Dd = some (.dK KV) ∧ H3 A2 = some (.lst (L.map V.int)) ∧ L.length = i ∧
      (∀ g ∈ hs, H3 (f g).1 = some (.lst (((f g).2.take
        (hs.count g - (hs.take i).count g)).map V.int))) ∧
      ∀ (c : Nat) g, c < i → hs[c]? = some g →
        L[c]? = (f g).2[hs.count g - 1 - (hs.take c).count g]?)
      ⟨[], B', oC, ?_, Same.refl _, ?_, upd_same, rfl, ?_, ?_⟩
      (fun i H3 _ w3 => ?_) (fun i x H3 e w3 => ?_) fun H3 w3 => ?_
    · exact ⟨frB.sub, fun z hz' => by
        rw [upd_ne (nA2 z (.inl hz'))]; exact frB.kept z hz'⟩
    · rw [upd_ne (nA2 Dd (.inr (.inl rfl)))]; exact h1a
    · intro g hg
      rw [upd_ne (nA2 _ (.inr (.inr (qZ g hg)))), (qat g hg).1]
      have : (f g).2.length = hs.count g := by
        rw [(qat g hg).2.length_eq, hpos]
      rw [List.take_zero, List.count_nil, Nat.sub_zero, ← this, List.take_length]
    · intro c g hc; omega
    · obtain ⟨L, B3, o3, _, sb, _⟩ := w3
      exact sameT o3.sub (sameT sb hT2)
    · obtain ⟨L, B3, o3, f3, sb, hD3, hA3, hL3, hq3, hc3⟩ := w3
      rw [List.getElem?_map] at e
      cases eg : hs[i]? with
      | none => rw [eg] at e; cases e
      | some g =>
      rw [eg] at e
      cases e
      have hg := List.mem_of_getElem? eg
      have hlt : h < (σ.set d (some (V.ref Dd))).length := by
        rw [List.length_set, ok.len]; exact lt_get hh
      have e5 : (wipe (σ.set d (some (V.ref Dd))) [h]).set h (some (.int g)) =
          (σ.set d (some (V.ref Dd))).set h (some (.int g)) := by
        show ((σ.set d (some (V.ref Dd))).set h none).set h _ = _
        rw [List.set_set]
      unfold gName tYes
      dsimp only
      rw [e5, if_pos rfl]
      refine ⟨?_, ?_⟩
      · show ((σ.set d (some (V.ref Dd))).set h (some (.int g))).set h none =
          (σ.set d (some (V.ref Dd))).set h none
        rw [List.set_set]
      have hdl : d < σ.length := by rw [ok.len]; exact lt_get hd
      refine ⟨.ref Dd, ?_, .int g, List.getElem?_set_self hlt, Dd,
        .ref (f g).1, rfl, ?_, ?_⟩
      · rw [List.getElem?_set_ne hhd, List.getElem?_set_self hdl]
      · obtain ⟨c, _, _, _, hv⟩ := hf g hg
        rw [← hv]
        exact DGet.k (k := Sum.inl g) hD3
      have hcnt := count_lt eg
      have hlen : (f g).2.length = hs.count g := by
        rw [(qat g hg).2.length_eq, hpos]
      have hx : ((f g).2.take (hs.count g - (hs.take i).count g)).length =
          hs.count g - (hs.take i).count g := by
        rw [List.length_take]; omega
      obtain ⟨y, hy⟩ : ∃ y, (f g).2[hs.count g - 1 - (hs.take i).count g]? =
          some y := ⟨(f g).2[hs.count g - 1 - (hs.take i).count g]'(by omega),
            List.getElem?_eq_getElem _⟩
      refine ⟨.inl ⟨rfl, _, SqL.of (hq3 g hg)⟩, (f g).1, _, .int y, rfl, rfl,
        hq3 g hg, ?_, ?_⟩
      · rw [List.length_map, hx, List.getElem?_map, List.getElem?_take_of_lt (by omega),
          show hs.count g - (hs.take i).count g - 1 =
            hs.count g - 1 - (hs.take i).count g by omega, hy]
        rfl
      have nqA : (f g).1 ≠ A2 := nA2 _ (.inr (.inr (qZ g hg)))
      have nqD : (f g).1 ≠ Dd := fun z => by
        have := hq3 g hg
        rw [z, hD3] at this
        cases this
      refine ⟨L.map V.int, ?_, ?_, L ++ [y], B3, ?_, ?_, sb, ?_, ?_, ?_, ?_, ?_⟩
      · rw [upd_ne (Ne.symm nqA)]; exact hA3
      · rw [List.length_map, hL3]
        have := lt_get eg
        rw [sizeLine_eq]
        omega
      · exact (o3.write (.inl (.inr (.inr (qZ g hg))))).write (.inr rfl)
      · refine ⟨f3.sub, fun z hz' => ?_⟩
        rw [upd_ne (nA2 z (.inl hz')), upd_ne]
        · exact f3.kept z hz'
        · intro z2
          exact w.nz _ (qZ g hg) (z2 ▸ hz')
      · rw [upd_ne (nA2 Dd (.inr (.inl rfl))), upd_ne (Ne.symm nqD)]
        exact hD3
      · rw [upd_same, List.map_append]; rfl
      · simp [hL3]
      · intro g' hg'
        rw [upd_ne (nA2 _ (.inr (.inr (qZ g' hg')))), count_take eg]
        by_cases eq : g = g'
        · subst eq
          rw [if_pos rfl, upd_same, ← List.map_dropLast,
            drop_last_take (by omega) (by omega)]
          rw [show hs.count g - (hs.take i).count g - 1 =
            hs.count g - ((hs.take i).count g + 1) by omega]
        · rw [if_neg eq, upd_ne (Ne.symm (qinj g hg g' hg' eq))]
          exact hq3 g' hg'
      · intro c g' hc hcg
        by_cases hci : c = i
        · subst hci
          rw [eg] at hcg
          cases hcg
          rw [List.getElem?_append_right (by omega), hL3, Nat.sub_self, hy]
          rfl
        · rw [List.getElem?_append_left (by omega)]
          exact hc3 c g' (by omega) hcg
    · obtain ⟨L, B3, o3, f3, sb, hD3, hA3, hL3, hq3, hc3⟩ := w3
      rw [List.length_map] at hL3 hc3
      refine ⟨A2, L.map V.int, rfl, .inl ⟨SqL.of hA3, fun p ob hp hd' _ => ?_⟩⟩
      obtain ⟨o4, f4⟩ := (o3.less (Z := Z) fun z hz => .inl (.inl hz)).new
        (o := .frz ob (.tup (L.map V.int))) hp
      refine jr _ _ n _ _ o4.toBs (f3.trans f4) (.newT upd_same hd'
        (isAll_ints L)) (hq n L hn ⟨fun g => (f g).2, fun g hg => (qat g hg).2,
          hL3, fun i g hi => hc3 i g (lt_get hi) hi⟩)
end
theorem pe_dgetR {X : Cx} {k : Nat} {o i : Expr} {td ty : TE} {pos : Pos}
    (hr : Room k X.A) (ho : PE X o td) (hi : PE X i ty) (hs : NoSl i) :
    PE X (.Subscript o i pos) (tDGet td ty) :=
  pe_dget (by have := hr.units; omega) ho hi hs
section
variable {X : Cx} {K : PySem.W.Frag} {o e : Expr} {es : List Expr} {to : TE}
variable {t : TA} {name : Str} {apos cpos : Pos} {T id : String}
variable {r : V → List V → Hp → VK → Prop}
theorem pe_bm0K (hK : X.K = K) (pa : PlainAttrs T) (slot : Slot T name id)
    (hty : typeOf (.builtin id) = pure (.type "method_descriptor"))
    (hm : MtR X id r) (ho : PE X o to)
    (hbase : attributeBase o name X.env (eval o X.env) = eval o X.env := by rfl)
    (hline : (apos.endLine == cpos.line) = true := by rfl) :
    PE X (.Call (.Attribute o name apos) [] [] cpos) (tBM0 K T r to) := by
  subst hK
  exact pe_bm0 pa slot hty hm ho hbase hline
end
section
variable {K : PySem.W.Frag} {l : Option Addr} {ρ : Ro} {m : Nat}
variable {Φ : Nat → D → Prop}
theorem eqs_int (i : Int) : Eqs (.int i) :=
  ⟨rfl, by
    unfold SeqAt.shaped
    rw [flat_lay (.int i) rfl, decide_eq_true (by simp [D.py, PyData.depth])]; rfl⟩
theorem eqv_int (i j : Int) : PyData.eqv (D.int i).py (D.int j).py =
    decide (i = j) := by
  rw [Bool.eq_iff_iff, eqv_iff _ _ rfl rfl, decide_eq_true_eq, D.int.injEq]
theorem v_eqDi {i j : Int} (q : Φ m (.bl (decide (i = j)))) :
    VvC K l ρ (fun vs H Q => ∃ x y, vs = [x, y] ∧ rEqD K x y H Q)
      [.int i, .int j] m Φ :=
  v_eqD (eqs_int i) (eqs_int j) (by rw [eqv_int]; exact q)
theorem v_neDi {i j : Int} (q : Φ m (.bl (!decide (i = j)))) :
    VvC K l ρ (fun vs H Q => ∃ x y, vs = [x, y] ∧ rNeD K x y H Q)
      [.int i, .int j] m Φ :=
  v_neD (eqs_int i) (eqs_int j) (by rw [eqv_int]; exact q)
end
end Wt

namespace Wt
open PySem PySem.Spec PyProof.Rows L2
section
variable {prog : Program} {w : World} {A : Around}
variable {E : Value → Shared → Prop} {s : Shared}
end
section
variable {X : Cx}
variable {K : PySem.W.Frag} {o e : Expr} {es : List Expr} {to : TE}
variable {t : TA} {name : Str} {apos cpos : Pos} {T id : String}
variable {r : V → List V → Hp → VK → Prop}
theorem pe_bmK (hK : X.K = K) (pa : PlainAttrs T) (slot : Slot T name id)
    (hty : typeOf (.builtin id) = pure (.type "method_descriptor"))
    (hm : MtR X id r) (ho : PE X o to) (ha : PA X (e :: es) t)
    (hbase : attributeBase o name X.env (eval o X.env) =
      eval o X.env := by rfl)
    (hfew : ((backTo cpos (starEach (e :: es) X.env)).all (fun x => !x.1) &&
      (backToKw cpos (keywordEach [] X.env)).all (fun x => x.1.isSome) &&
      decide ((e :: es).length + ([] : List Keyword).length +
        (if ([] : List Keyword).isEmpty then 0 else 1) < 30)) = true := by rfl)
    (hline : (apos.endLine == cpos.line) = true := by rfl)
    (hs : starEach (e :: es) X.env =
      (false, eval e X.env) :: starEach es X.env := by rfl)
    (hplain : (backTo cpos (starEach es X.env)).any (·.1) = false := by rfl) :
    PE X (.Call (.Attribute o name apos) (e :: es) [] cpos)
      (tBM K T r to t) := by
  subst hK
  exact pe_bm pa slot hty hm ho ha hbase hfew hline hs hplain
end
section
variable {K : PySem.W.Frag} {l : Option Addr} {ρ : Ro} {m : Nat}
variable {Φ : Nat → D → Prop} {ta te : TE} {tA : TA}
/-- tuple(own) -/
theorem e_tupOwn {i : Nat} {ds : List D} (hi : ρ[i]? = some (some (.own ds)))
    (q : Φ m (.tup ds)) :
    EvC K l (tCB (rTupC K) (tCons (tVar i) tNil)) ρ m Φ := by
  intro Z B H σ Q ok k
  obtain ⟨v, e1, a, xs, rfl, q1, q2, q3, q4, q5⟩ := ok.sl i _ hi
  refine ⟨_, e1, a, xs, rfl, .inl ⟨SqL.of q1, fun p ob hp hd _ => ?_⟩⟩
  obtain ⟨o2, f2⟩ := ok.new (o := .frz ob (.tup xs)) hp
  exact k _ _ m _ _ o2 f2 (.newT upd_same hd (q5.mono f2.sub)) q
variable {Nx : Nat → Ro → Prop} {Rt : Nat → D → Prop}
end
end Wt

namespace Wt
open PySem PySem.Spec PyProof.Rows L2 PySem.Calls
structure ZSt (xs ys : Array Value) (z TI TO i1 i2 l1 l2 S : Addr) (i : Nat) (h : Heap) : Prop where
  ti : IsPair h TI (.ref i1) (.ref i2)
  a1 : h.IsListIter i1 l1 i
  a2 : h.IsListIter i2 l2 i
  b1 : h.IsList l1 xs
  b2 : h.IsList l2 ys
  z : (IsZip h z TI TO .none ∧ ∃ a b, IsPair h TO a b) ∨
    ∃ T f oT, IsZipHeld h z TI TO T f ∧ h.get? T = some oT ∧ T ≠ z ∧ T ≠ i1 ∧ T ≠ i2 ∧ T ≠ S
section
variable {prog : Program} {w : World} {A : Around} {E : Value → Shared → Prop} {s : Shared}
variable {z TI TO i1 i2 l1 l2 S : Addr} {xs ys : Array Value}
theorem ZSt.keep {h h' : Heap} {i : Nat} (t : ZSt xs ys z TI TO i1 i2 l1 l2 S i h)
    (k : ∀ b o, b ≠ S → h.get? b = some o → h'.get? b = some o)
    (n : z ≠ S ∧ TI ≠ S ∧ TO ≠ S ∧ i1 ≠ S ∧ i2 ≠ S ∧ l1 ≠ S ∧ l2 ≠ S) :
    ZSt xs ys z TI TO i1 i2 l1 l2 S i h' := by
  obtain ⟨n1, n2, n3, n4, n5, n6, n7⟩ := n
  refine ⟨k _ _ n2 t.ti, t.a1.at fun o e => k _ _ n4 e, t.a2.at fun o e => k _ _ n5 e,
    t.b1.at fun o e => k _ _ n6 e, t.b2.at fun o e => k _ _ n7 e, ?_⟩
  rcases t.z with ⟨q, a, b, r⟩ | ⟨T, f, oT, q, r, m1, m2, m3, m4⟩
  · exact .inl ⟨k _ _ n1 q, a, b, k _ _ n3 r⟩
  · exact .inr ⟨T, f, oT, k _ _ n1 q, k _ _ m4 r, m1, m2, m3, m4⟩
end
theorem far {c S : Nat} (h : c < S) (k : Nat) : S + k ≠ c := by omega
section
variable {prog : Program} {w : World} {A : Around} {s : Shared}
variable {R : Result → Shared → Prop}
variable {z TI TO i1 i2 l1 l2 : Addr} {S : Nat} {xs ys : Array Value}
end
section
variable {prog : Program} {w : World} {A : Around} {E : Value → Shared → Prop}
variable {s : Shared} {z TI TO i1 i2 l1 l2 : Addr} {xs ys : Array Value}
end
section
variable {X : Cx} {pins : List (Addr × Obj)} {σ : L2.St} {H H' : Hp} {s : Shared}
end
section
variable {K : PySem.W.Frag} {l : Option Addr} {ρ : Ro} {m : Nat}
variable {Φ : Nat → D → Prop} {tA : TA}
end
end Wt

namespace Wt
open PySem PySem.Spec PyProof.Rows L2
section
variable {X : Cx} {tg : Expr}
/-- for x in s, s a list or a tuple -/
def iSeq (K : PySem.W.Frag) (tl : TE) : TI := fun σ H R => tl σ H fun x H1 =>
  ∃ a, x = .ref a ∧ ((∃ xs, SqL K H1 a xs ∧ R (Itl K a) H1) ∨
    ∃ xs, SqT K H1 a xs ∧ R (Itt K a) H1)
theorem pi_seq {e : Expr} {tl : TE} (he : PE X e tl) : PI X tg e (iSeq X.K tl) := by
  constructor
  intro pins s σ H R I h
  refine thn (he.run pins s σ H _ I h) fun v t ⟨x, H1, J, rx, a, ex, q⟩ => ?_
  rw [ex] at rx
  cases rx
  have new : ∀ b ∈ [t.heap.objs.size], FpOk X pins H1 b := fun b hb => by
    cases List.mem_singleton.mp hb
    exact J.fpOk (Nat.le_refl _) (J.hok.fresh (Nat.le_refl _))
  have up : ∀ o b u, t.heap.get? b = some u → (t.heap.push o).get? b = some u :=
    fun o b u z => Heap.get?_push_of_some _ z
  rcases q with ⟨xs, hs, q⟩ | ⟨xs, hs, q⟩
  · obtain ⟨its, _, p, _⟩ := J.list hs
    exact wpAny_pyIter_list p.isList ⟨_, _, _, _, H1, rfl, J.kept (t' := t.toks) (up _),
      turn_list a _, ⟨_, Heap.get?_push_size _ rfl, rfl, rfl⟩, new, q⟩
  · obtain ⟨its, _, p, _⟩ := J.tuple hs
    exact wpAny_pyIter_tuple (items := its.toArray) p ⟨_, _, _, _, H1, rfl,
      J.kept (t' := t.toks) (up _), turn_tuple a _,
      ⟨_, Heap.get?_push_size _ rfl, rfl, rfl⟩, new, q⟩
end
section
variable {K : PySem.W.Frag} {l : Option Addr} {ρ : Ro} {m : Nat}
variable {Φ : Nat → D → Prop} {Nx : Nat → Ro → Prop} {Rt : Nat → D → Prop}
variable {ta te tl : TE} {tb : TS} {tt : TT}
theorem s_forS {j : Nat}
    (h : EvC K l tl ρ m fun m1 x => ∃ ds, (x = .lst ds ∨ x = .tup ds) ∧
      ∃ I : Nat → Nat → Ro → Prop, I 0 m1 ρ ∧
      (∀ i n ρ' d, ds[i]? = some d → I i n ρ' →
        SvC K l tb (ρ'.set j (some (.dat d))) n (fun n2 ρ2 =>
          I (i + 1) n2 ρ2) Rt) ∧
      ∀ n ρ', I ds.length n ρ' → Nx n ρ') :
    SvC K l (tFor (iSeq K tl) (gName j) tb) ρ m Nx Rt := by
  intro Z B H σ W ok k jr
  refine h Z B H σ _ ok fun v x m1 B1 H1 o1 f1 i1 g1 => ?_
  obtain ⟨ds, e, I, h0, hs, hd⟩ := g1
  rcases e with rfl | rfl
  · cases i1 with
    | @lst a xs ds hT is =>
      refine ⟨a, rfl, .inl ⟨xs, SqL.of (o1.sub _ _ hT), ?_⟩⟩
      refine for_list (xs := xs) (fun i σ' H' => ∃ n ρ' B',
        Ok K l Z n B' H' σ' ρ' ∧ Fr Z B1 H1 B' H' ∧ I i n ρ')
        ⟨m1, ρ, B1, o1, Fr.refl, h0⟩ (fun i σ' H' _ w => ?_)
        (fun i x σ' H' e w => ?_) fun σ' H' w => ?_
      · obtain ⟨n, ρ', B', ok', fr', _⟩ := w
        exact SqL.of (ok'.sub _ _ (fr'.sub _ _ hT))
      · obtain ⟨n, ρ', B', ok', fr', hI⟩ := w
        obtain ⟨d, e2, q⟩ := (is.mono fr'.sub).get e
        refine hs i n ρ' d e2 hI Z B' H' _ _ (ok'.set q)
          (fun σ2 ρ2 m2 B2 H2 o2 f2 g2 => ⟨m2, ρ2, B2, o2, fr'.trans f2, g2⟩)
          fun v d m2 B2 H2 o2 f2 i2 g2 => ?_
        exact jr v d m2 B2 H2 o2 ((f1.trans fr').trans f2) i2 g2
      · obtain ⟨n, ρ', B', ok', fr', hI⟩ := w
        rw [is.length] at hI
        exact k σ' ρ' n B' H' ok' (f1.trans fr') (hd n ρ' hI)
  · cases i1 with
    | @tup a xs ds hT is =>
      refine ⟨a, rfl, .inr ⟨xs, sameT o1.sub hT, ?_⟩⟩
      refine for_tup (xs := xs) (fun i σ' H' => ∃ n ρ' B',
        Ok K l Z n B' H' σ' ρ' ∧ Fr Z B1 H1 B' H' ∧ I i n ρ')
        ⟨m1, ρ, B1, o1, Fr.refl, h0⟩ (fun i σ' H' _ w => ?_)
        (fun i x σ' H' e w => ?_) fun σ' H' w => ?_
      · obtain ⟨n, ρ', B', ok', fr', _⟩ := w
        exact sameT ok'.sub (sameT fr'.sub hT)
      · obtain ⟨n, ρ', B', ok', fr', hI⟩ := w
        obtain ⟨d, e2, q⟩ := (is.mono fr'.sub).get e
        refine hs i n ρ' d e2 hI Z B' H' _ _ (ok'.set q)
          (fun σ2 ρ2 m2 B2 H2 o2 f2 g2 => ⟨m2, ρ2, B2, o2, fr'.trans f2, g2⟩)
          fun v d m2 B2 H2 o2 f2 i2 g2 => ?_
        exact jr v d m2 B2 H2 o2 ((f1.trans fr').trans f2) i2 g2
      · obtain ⟨n, ρ', B', ok', fr', hI⟩ := w
        rw [is.length] at hI
        exact k σ' ρ' n B' H' ok' (f1.trans fr') (hd n ρ' hI)
end
end Wt

namespace Wt
open PySem PySem.Spec PyProof.Rows L2
section
variable {P : Program} {w : World} {K : PySem.W.Frag}
variable {mg : Str → Option Value} {base : Heap} {CX : CXT}
variable {k : Nat} {f : Addr} {fd : FuncData} {ps : List Str} {sp : Sp}
end
def D.num : D → Option Int
  | .int i => some i
  | .bl b => some (if b = true then 1 else 0)
  | _ => none
section
variable {X : Cx}
end
section
variable {K : PySem.W.Frag} {l : Option Addr} {ρ : Ro} {m : Nat} {Φ : Nat → D → Prop}
variable {Nx : Nat → Ro → Prop} {Rt : Nat → D → Prop} {tA : TA}
end
structure Its (k w : Nat) (xs : List D) : Prop where
  plain : D.plains xs = true
  able : PyData.showableAll (D.pys xs) = true
  deep : PyData.depthAll (D.pys xs) ≤ k
  short : PyData.leavesShortAll 60 (D.pys xs) = true
  wt : PyData.weightAll (D.pys xs) ≤ w
section
variable {k w k' w' : Nat} {xs ys : List D} {x : D}
theorem Its.up (h : Its k w xs) (hk : k ≤ k') (hw : w ≤ w') : Its k' w' xs :=
  ⟨h.plain, h.able, Nat.le_trans h.deep hk, h.short, Nat.le_trans h.wt hw⟩
theorem Its.tup (h : Its k w xs) : Itm (k + 1) w (.tup xs) := by
  refine ⟨by rw [D.plain]; exact h.plain, by rw [D.py, PyData.showable]; exact h.able, ?_,
    by rw [D.py, PyData.leavesShort]; exact h.short, by rw [D.py, PyData.weight]; exact h.wt⟩
  rw [D.py, PyData.depth]
  have := h.deep
  omega
theorem Its.lst (h : Its k w xs) : Itm (k + 1) w (.lst xs) := by
  refine ⟨by rw [D.plain]; exact h.plain, by rw [D.py, PyData.showable]; exact h.able, ?_,
    by rw [D.py, PyData.leavesShort]; exact h.short, by rw [D.py, PyData.weight]; exact h.wt⟩
  rw [D.py, PyData.depth]
  have := h.deep
  omega
theorem Itm.its (h : Itm (k + 1) w (.tup xs)) : Its k w xs := by
  have h1 := h.plain
  have h2 := h.able
  have h3 := h.deep
  have h4 := h.short
  have h5 := h.wt
  rw [D.plain] at h1
  rw [D.py, PyData.showable] at h2
  rw [D.py, PyData.depth] at h3
  rw [D.py, PyData.leavesShort] at h4
  rw [D.py, PyData.weight] at h5
  exact ⟨h1, h2, by omega, h4, h5⟩
theorem Itm.deep1 (h : Itm k w (.tup xs)) : 1 ≤ k := by
  have h3 := h.deep
  rw [D.py, PyData.depth] at h3
  omega
theorem Its.nil : Its 0 0 [] := ⟨rfl, rfl, Nat.le_refl _, rfl, Nat.le_refl _⟩
theorem Its.cons (h : Itm k w x) (r : Its k w' xs) : Its k (w + 1 + w') (x :: xs) := by
  refine ⟨by rw [D.plains, h.plain, r.plain]; rfl, by rw [D.pys, PyData.showableAll, h.able, r.able]; rfl, ?_,
    by rw [D.pys, PyData.leavesShortAll, h.short, r.short]; rfl, ?_⟩
  · rw [D.pys, PyData.depthAll]
    exact Nat.max_le.mpr ⟨h.deep, r.deep⟩
  · rw [D.pys, PyData.weightAll]
    have := h.wt
    have := r.wt
    omega
theorem Its.head (r : Its k w (x :: xs)) : Itm k w x ∧ Its k w xs ∧
    x.py.weight + 1 + PyData.weightAll (D.pys xs) ≤ w := by
  have h1 := r.plain
  have h2 := r.able
  have h3 := r.deep
  have h4 := r.short
  have h5 := r.wt
  rw [D.plains, Bool.and_eq_true] at h1
  rw [D.pys, PyData.showableAll, Bool.and_eq_true] at h2
  rw [D.pys, PyData.depthAll] at h3
  rw [D.pys, PyData.leavesShortAll, Bool.and_eq_true] at h4
  rw [D.pys, PyData.weightAll] at h5
  have h3 := Nat.max_le.mp h3
  exact ⟨⟨h1.1, h2.1, h3.1, h4.1, by omega⟩, ⟨h1.2, h2.2, h3.2, h4.2, by omega⟩, h5⟩
theorem Its.app : ∀ {xs : List D} {w : Nat}, Its k w xs → Its k w' ys → Its k (w + w') (xs ++ ys)
  | [], w, _, r => r.up (Nat.le_refl _) (by omega)
  | x :: xs, w, h, r => by
    obtain ⟨h1, h2, h3⟩ := h.head
    have i := Its.app (xs := xs) (w := PyData.weightAll (D.pys xs)) ⟨h2.plain, h2.able, h2.deep, h2.short, Nat.le_refl _⟩ r
    have j : Its k (x.py.weight + 1 + (PyData.weightAll (D.pys xs) + w')) (x :: (xs ++ ys)) :=
      Its.cons ⟨h1.plain, h1.able, h1.deep, h1.short, Nat.le_refl _⟩ i
    exact j.up (Nat.le_refl _) (by omega)
theorem Its.sub : ∀ {xs ys : List D} {w : Nat}, ys.Sublist xs → Its k w xs → Its k w ys
  | _, _, _, .slnil, h => h
  | _, _, _, .cons a s, h => Its.sub s h.head.2.1
  | _, _, w, .cons₂ (l₂ := ys) (l₁ := zs) a s, h => by
    obtain ⟨h1, h2, h3⟩ := h.head
    have i := Its.sub s (w := PyData.weightAll (D.pys ys)) ⟨h2.plain, h2.able, h2.deep, h2.short, Nat.le_refl _⟩
    have j := Its.cons ⟨h1.plain, h1.able, h1.deep, h1.short, Nat.le_refl _⟩ i
    exact j.up (Nat.le_refl _) (by omega)
theorem Its.mem : ∀ {xs : List D}, Its k w xs → ∀ x ∈ xs, Itm k w x
  | x :: xs, h, y, hy => by
    rcases List.mem_cons.mp hy with q | q
    · rw [q]; exact h.head.1
    · exact Its.mem h.head.2.1 y q
end
section
variable {K : PySem.W.Frag} {l : Option Addr} {ρ : Ro} {m : Nat} {Φ : Nat → D → Prop}
end
mutual
def D.smallB (b : Int) : D → Bool
  | .int i => decide (-b ≤ i) && decide (i ≤ b)
  | .lst xs => D.smalls b xs
  | .tup xs => D.smalls b xs
  | _ => true
def D.smalls (b : Int) : List D → Bool
  | [] => true
  | x :: xs => D.smallB b x && D.smalls b xs
end
/-- data with small numbers, at most so deep, so much -/
structure Sm (b : Int) (k w : Nat) (d : D) : Prop where
  itm : Itm k w d
  sm : d.smallB b = true
structure Sms (b : Int) (k w : Nat) (xs : List D) : Prop where
  its : Its k w xs
  sm : D.smalls b xs = true
section
variable {b c : Int} {k w k' w' : Nat} {xs ys : List D} {x d : D}
theorem smalls_iff : ∀ {xs : List D}, D.smalls b xs = true ↔ ∀ x ∈ xs, x.smallB b = true
  | [] => by simp [D.smalls]
  | x :: xs => by
    rw [D.smalls, Bool.and_eq_true, smalls_iff (xs := xs)]
    simp
mutual
theorem smallB_up (h : b ≤ c) : ∀ d : D, d.smallB b = true → d.smallB c = true
  | .int i, q => by
    rw [D.smallB, Bool.and_eq_true, decide_eq_true_eq, decide_eq_true_eq] at q ⊢
    omega
  | .lst xs, q => by rw [D.smallB] at q ⊢; exact smalls_up h xs q
  | .tup xs, q => by rw [D.smallB] at q ⊢; exact smalls_up h xs q
  | .non, _ | .bl _, _ | .str _, _ | .dic _, _ | .ins _ _ _, _ | .scr _, _ | .dct _ _, _ => rfl
theorem smalls_up (h : b ≤ c) : ∀ xs : List D, D.smalls b xs = true → D.smalls c xs = true
  | [], _ => rfl
  | x :: xs, q => by
    rw [D.smalls, Bool.and_eq_true] at q ⊢
    exact ⟨smallB_up h x q.1, smalls_up h xs q.2⟩
end
theorem Sm.up (h : Sm b k w d) (hb : b ≤ c) (hk : k ≤ k') (hw : w ≤ w') : Sm c k' w' d :=
  ⟨h.itm.mono hk hw, smallB_up hb d h.sm⟩
theorem Sms.up (h : Sms b k w xs) (hb : b ≤ c) (hk : k ≤ k') (hw : w ≤ w') : Sms c k' w' xs :=
  ⟨h.its.up hk hw, smalls_up hb xs h.sm⟩
theorem Sms.tup (h : Sms b k w xs) : Sm b (k + 1) w (.tup xs) := ⟨h.its.tup, h.sm⟩
theorem Sms.lst (h : Sms b k w xs) : Sm b (k + 1) w (.lst xs) := ⟨h.its.lst, h.sm⟩
theorem Sm.sms (h : Sm b (k + 1) w (.tup xs)) : Sms b k w xs := ⟨h.itm.its, h.sm⟩
theorem Sms.nil : Sms b 0 0 [] := ⟨Its.nil, rfl⟩
theorem Sms.one (h : Sm b k w x) : Sms b k (w + 1) [x] :=
  ⟨(Its.cons h.itm (Its.nil.up (Nat.zero_le k) (Nat.le_refl 0))).up (Nat.le_refl _) (by omega),
    by rw [D.smalls, h.sm]; rfl⟩
theorem Sms.app (h : Sms b k w xs) (r : Sms b k w' ys) : Sms b k (w + w') (xs ++ ys) :=
  ⟨h.its.app r.its, smalls_iff.mpr fun x hx => (List.mem_append.mp hx).elim
    (smalls_iff.mp h.sm x) (smalls_iff.mp r.sm x)⟩
theorem Sms.sub (h : Sms b k w xs) (s : ys.Sublist xs) : Sms b k w ys :=
  ⟨h.its.sub s, smalls_iff.mpr fun x hx => smalls_iff.mp h.sm x (s.subset hx)⟩
theorem Sms.mem (h : Sms b k w xs) (hx : x ∈ xs) : Sm b k w x :=
  ⟨h.its.mem x hx, smalls_iff.mp h.sm x hx⟩
theorem Its.len : ∀ {xs : List D} {w : Nat}, Its k w xs → xs.length ≤ w
  | [], _, _ => Nat.zero_le _
  | x :: xs, w, h => by
    obtain ⟨_, h2, h3⟩ := h.head
    have := Its.len (xs := xs) (w := PyData.weightAll (D.pys xs)) ⟨h2.plain, h2.able, h2.deep, h2.short, Nat.le_refl _⟩
    rw [List.length_cons]
    omega
end
end Wt

namespace Wt
open PySem PySem.Spec PyProof.Rows L2
section
variable {X : Cx}
end
section
variable {K : PySem.W.Frag} {l : Option Addr} {ρ : Ro} {m : Nat} {Φ : Nat → D → Prop} {ta : TE}
end
end Wt

namespace Wt
open PySem PySem.Spec PyProof.Rows L2
section
variable {P : Program} {w : World} {K : PySem.W.Frag} {mg : Str → Option Value} {base : Heap}
end
section
variable {K : PySem.W.Frag} {l : Option Addr} {ρ : Ro} {m : Nat}
variable {Φ : Nat → D → Prop} {tA : TA}
end
section
variable {K : PySem.W.Frag} {l : Option Addr} {ρ : Ro} {m : Nat}
variable {Φ : Nat → D → Prop} {Nx : Nat → Ro → Prop} {Rt : Nat → D → Prop} {ts tb : TS} {ta te tl : TE}
end
end Wt

namespace Wt
open PySem PySem.Spec PyProof.Rows L2
section
variable {X : Cx}
end
section
variable {K : PySem.W.Frag} {l : Option Addr} {ρ : Ro} {m : Nat}
variable {Φ : Nat → D → Prop} {ta : TE}
end
section
variable {K : PySem.W.Frag} {l : Option Addr} {ρ : Ro} {m : Nat}
variable {Nx : Nat → Ro → Prop} {Rt : Nat → D → Prop} {te : TE}
theorem ixN_nat {n c : Nat} (h : c < n) : ixN n (c : Int) = some c := by
  unfold ixN
  rw [if_pos (by omega)]
  first
    | (rw [if_pos (by omega)]; simp)
    | simp [h]
    | omega
/-- x = list(t) that will be written -/
theorem s_ownQ {i : Nat} (h : EvC K l te ρ m fun m1 x => ∃ es, x.items = some es ∧
      Nx m1 (ρ.set i (some (.own es)))) :
    SvC K l (tAsg (tCB (rListQ K) (tCons te tNil)) (gName i)) ρ m Nx Rt := by
  intro Z B H σ W ok k _
  refine h Z B H σ _ ok fun v d m1 B1 H1 o1 f1 i1 g1 => ?_
  obtain ⟨es, he, q⟩ := g1
  obtain ⟨a, us, rfl, hs, r⟩ : ∃ a us, v = .ref a ∧ (SqL K H1 a us ∨ SqT K H1 a us) ∧ IsAll K B1 us es := by
    cases i1 with
    | lst h r => cases he; exact ⟨_, _, rfl, .inl (SqL.of (o1.sub _ _ h)), r⟩
    | tup h r _ => cases he; exact ⟨_, _, rfl, .inr (sameT o1.sub h), r⟩
    | _ => cases he
  refine ⟨a, us, rfl, hs, fun p hp => ?_⟩
  have hz : ¬ Z p := fun z => (o1.zs p z).1 hp
  exact k _ _ m1 B1 _ ((o1.aside (o := .lst us) hp).setOwn hz upd_same r) (f1.trans
    ⟨Same.refl B1, fun z hz' => upd_ne fun e => hz (e ▸ hz')⟩) q
end
end Wt

namespace Wt
open PySem PySem.Spec PyProof.Rows L2
/-- the order by which data rise -/
abbrev leD : D → D → Bool := PySem.W.dataLe false D.py
section
variable {X : Cx}
end
section
variable {K : PySem.W.Frag} {l : Option Addr} {ρ : Ro} {m : Nat}
variable {Φ : Nat → D → Prop}
end
end Wt

namespace Wt
open PySem PySem.Spec PyProof.Rows L2
section
variable {X : Cx}
end
section
variable {K : PySem.W.Frag} {l : Option Addr} {ρ : Ro} {m : Nat}
variable {Nx : Nat → Ro → Prop} {Rt : Nat → D → Prop} {te t1 t2 : TE} {tA : TA}
variable {Φ : Nat → D → Prop}
end
end Wt

namespace Wt
open PySem PySem.Spec PyProof.Rows L2
section
variable {prog : Program} {w : World} {A : Around}
variable {E : Value → Shared → Prop} {s : Shared}
end
section
variable {X : Cx}
end
section
variable {K : PySem.W.Frag} {l : Option Addr} {ρ : Ro} {m : Nat}
variable {Φ : Nat → D → Prop}
end
end Wt
namespace Wt
open PySem PySem.Spec PyProof.Rows L2
section
variable {X : Cx}
end
section
variable {K : PySem.W.Frag} {l : Option Addr} {ρ : Ro} {m : Nat}
variable {Φ : Nat → D → Prop} {ta : TE}
end
end Wt

namespace Wt
open PySem PySem.Spec PyProof.Rows L2
section
variable {K : PySem.W.Frag} {l : Option Addr} {ρ : Ro} {m : Nat}
variable {Φ : Nat → D → Prop} {te tl tl2 : TE} {tt : TT}
variable {Z : Addr → Prop} {B H : Hp} {σ : L2.St}
end
section
variable {K : PySem.W.Frag} {l : Option Addr} {ρ : Ro} {m : Nat}
variable {Nx : Nat → Ro → Prop} {Rt : Nat → D → Prop} {te : TE}
end
section
variable {K : PySem.W.Frag} {l : Option Addr} {ρ : Ro} {m : Nat}
variable {Φ : Nat → D → Prop} {te tl : TE} {tt : TT}
end
end Wt

namespace Wt
open PySem PySem.Spec PyProof.Rows L2
section
variable {P : Program} {w : World} {A : Around} {E : Value → Shared → Prop} {s : Shared}
/-- a key that the heap reads at an address -/
def KI (h : Heap) (k : NestedKey) (a : Addr) : Prop := NestedIs h k (.ref a) ∧ k.depth ≤ 8
/-- the rows of a table -/
def rowsN (w : World) (L : List (Addr × NestedKey)) : List (Int × Value) := L.map fun p => (NestedKey.hash w p.2, .ref p.1)
structure SetN (w : World) (h : Heap) (a : Addr) (L : List (Addr × NestedKey)) (es : Array (Int × Value)) (ep : Nat)
    (t : SetTable) : Prop where
  ob : ∃ o, h.get? a = some o ∧ o.ExactSet ∧ o.data = .set es ep t
  rows : es.toList = rowsN w L
  tab : TabOk t (L.map fun p => NestedKey.hash w p.2)
  nd : (L.map (·.2)).Nodup
  key : ∀ p ∈ L, KI h p.2 p.1
  room : L.length * 5 < t.mask * 3
  few : L.length < 64
  led : w.params.followText "set-order" = true ∨ t.led = true
theorem SetN.size {a : Addr} {L : List (Addr × NestedKey)} {es : Array (Int × Value)} {ep : Nat} {t : SetTable} {h : Heap}
    (S : SetN w h a L es ep t) : es.size = L.length := by
  rw [← Array.length_toList, S.rows, rowsN, List.length_map]
theorem SetN.entry {a : Addr} {L : List (Addr × NestedKey)} {es : Array (Int × Value)} {ep : Nat} {t : SetTable} {h : Heap}
    (S : SetN w h a L es ep t) {i : Nat} {p : Addr × NestedKey} (hp : L[i]? = some p) :
    es[i]? = some (NestedKey.hash w p.2, .ref p.1) := by
  rw [← Array.getElem?_toList, S.rows, rowsN, List.getElem?_map, hp]
  rfl
end
end Wt

namespace Wt
open PySem PySem.Spec PyProof.Rows L2
section
variable {P : Program} {w : World} {A : Around} {E : Value → Shared → Prop} {s : Shared}
theorem SetN.keep {h h' : Heap} {a : Addr} {L : List (Addr × NestedKey)} {es : Array (Int × Value)}
    {ep : Nat} {t : SetTable} (S : SetN w h a L es ep t)
    (ha : ∀ o, h.get? a = some o → h'.get? a = some o) (hk : ∀ p ∈ L, KI h' p.2 p.1) : SetN w h' a L es ep t := by
  obtain ⟨o, ho, r⟩ := S.ob
  exact ⟨⟨o, ha o ho, r⟩, S.rows, S.tab, S.nd, hk, S.room, S.few, S.led⟩
/-- what is in it of the first i of ks -/
structure HasN (ks : List (Addr × NestedKey)) (i : Nat) (L : List (Addr × NestedKey)) : Prop where
  sub : ∀ p ∈ L, p ∈ ks.take i
  all : ∀ p ∈ ks.take i, p.2 ∈ L.map (·.2)
  len : L.length ≤ i
theorem HasN.put {ks L L' : List (Addr × NestedKey)} {i : Nat} {x : Addr × NestedKey} (g : HasN ks i L)
    (h : ks[i]? = some x) (c : x.2 ∈ L.map (·.2) ∧ L' = L ∨ L'.Perm (x :: L)) : HasN ks (i + 1) L' := by
  have e : ks.take (i + 1) = ks.take i ++ [x] := L2.take_next h
  rcases c with ⟨hm, rfl⟩ | pm
  · refine ⟨fun p hp => e ▸ List.mem_append_left _ (g.sub p hp), fun p hp => ?_, by have := g.len; omega⟩
    rw [e, List.mem_append, List.mem_singleton] at hp
    rcases hp with z | rfl
    · exact g.all p z
    · exact hm
  · refine ⟨fun p hp => ?_, fun p hp => ?_, by rw [pm.length_eq, List.length_cons]; have := g.len; omega⟩
    · rw [e, List.mem_append, List.mem_singleton]
      rcases List.mem_cons.mp (pm.mem_iff.mp hp) with z | z
      · exact .inr z
      · exact .inl (g.sub p z)
    · rw [(pm.map (·.2)).mem_iff, List.map_cons, List.mem_cons]
      rw [e, List.mem_append, List.mem_singleton] at hp
      rcases hp with z | rfl
      · exact .inr (g.all p z)
      · exact .inl rfl
end
mutual
def D.nk : D → NestedKey
  | .int i => .num i
  | .tup xs => .tup (D.nks xs)
  | _ => .none
def D.nks : List D → List NestedKey
  | [] => []
  | x :: xs => D.nk x :: D.nks xs
end
mutual
/-- numbers, and tuples of such -/
def D.keyed : D → Bool
  | .int _ => true
  | .tup xs => D.keyeds xs
  | _ => false
def D.keyeds : List D → Bool
  | [] => true
  | x :: xs => D.keyed x && D.keyeds xs
end
section
variable {X : Cx}
end
end Wt
namespace Wt
open PySem PySem.Spec PyProof.Rows L2
section
variable {X : Cx}
end
section
variable {K : PySem.W.Frag} {l : Option Addr} {ρ : Ro} {m : Nat}
variable {Φ : Nat → D → Prop} {ta : TE}
end
end Wt
namespace Wt
open PySem PySem.Spec PyProof.Rows L2
theorem _root_.L2.Room.u200 {k : Nat} {A : Around} (r : L2.Room k A) : A.units + 200 < cLine := by
  have := r.un
  omega
section
variable {X : Cx}
end
section
variable {K : PySem.W.Frag} {l : Option Addr} {ρ : Ro} {m : Nat}
variable {Φ : Nat → D → Prop}
end
end Wt

namespace Wt
open PySem PySem.Spec PyProof.Rows L2
section
variable {X : Cx}
end
section
variable {K : PySem.W.Frag} {l : Option Addr} {ρ : Ro} {m : Nat}
variable {Φ : Nat → D → Prop}
end
end Wt

namespace Wt
open PySem PySem.Spec PyProof.Rows L2
section
variable {K : PySem.W.Frag} {l : Option Addr} {ρ : Ro} {m : Nat}
variable {Φ : Nat → D → Prop} {tl te : TE} {tt : TT}
end
end Wt

namespace Wt
open PySem PySem.Spec PyProof.Rows L2
section
variable {K : PySem.W.Frag} {l : Option Addr} {ρ : Ro} {m : Nat}
variable {Φ : Nat → D → Prop} {tl te : TE} {tt : TT} {tA : TA}
variable {Z : Addr → Prop} {B H : Hp} {σ : L2.St}
end
end Wt

namespace Wt
open PySem PySem.Spec PyProof.Rows L2
section
variable {K : PySem.W.Frag} {l : Option Addr} {ρ : Ro} {m : Nat}
variable {Φ : Nat → D → Prop} {te : TE} {tA tA2 : TA}
end
end Wt

namespace Wt
open PySem PySem.Spec PyProof.Rows L2
section
variable {X : Cx} {o e f : Expr} {apos cpos : Pos} {td ty tx : TE}
end
section
variable {K : PySem.W.Frag} {l : Option Addr} {ρ : Ro} {m : Nat}
variable {Φ : Nat → D → Prop} {Θ : Nat → Bool → Prop} {tl te tk tv : TE} {tt : TT} {tA : TA}
variable {Z : Addr → Prop} {B H : Hp} {σ : L2.St} {Nx : Nat → Ro → Prop} {Rt : Nat → D → Prop} {ts : TS}
abbrev ObR := Hp → Addr → HO → Prop
/-- it stays told while more is data -/
def ObR.Mono (R : ObR) : Prop := ∀ B1 B2 a o, Same B1 B2 → R B1 a o → R B2 a o
theorem Ok.setObj {p : Addr} {o : HO} {R : ObR} {i : Nat}
    (h : Ok K l (fun a => Z a ∨ a = p) m B H σ ρ) (hz : ¬ Z p)
    (hp : H p = some o) (hR : R B p o) (mo : R.Mono) :
    Ok K l Z m B H (σ.set i (some (.ref p))) (ρ.set i (some (.obj R))) := by
  obtain ⟨z1, z2, z3⟩ := h.zs p (.inr rfl)
  have at_i : ∀ {s : Sl}, (ρ.set i (some (.obj R)))[i]? = some (some s) → i < ρ.length ∧ s = .obj R := by
    intro s e
    obtain ⟨hi, q⟩ := List.getElem?_eq_some_iff.mp e
    rw [List.length_set] at hi
    rw [List.getElem?_set_self hi] at e
    cases e
    exact ⟨hi, rfl⟩
  refine ⟨⟨h.sub, h.hand, fun z hz' => h.zs z (.inl hz')⟩, ?_, ?_, ?_⟩
  · rw [List.length_set, List.length_set]
    exact h.len
  · intro j s e
    by_cases hj : i = j
    · subst hj
      obtain ⟨hi, rfl⟩ := at_i e
      exact ⟨.ref p, List.getElem?_set_self (by rw [h.len]; exact hi),
        p, o, rfl, hp, z2, hz, z3, hR, fun B1 B2 => mo B1 B2 p o⟩
    · rw [List.getElem?_set_ne hj] at e ⊢
      obtain ⟨v, e1, q⟩ := (h.less (Z := Z) fun z q => .inl q).sl j s e
      exact ⟨v, e1, q⟩
  · intro j k x y a n p1 p2 e1 e2 s1 s2
    have other : ∀ (k : Nat) y, y.owns = true → ρ[k]? = some (some y) → σ[k]? ≠ some (some (.ref p)) := by
      intro k y po e s
      obtain ⟨v, e1, q⟩ := h.sl k _ e
      obtain ⟨a, ys, rfl, q1, q2, q3, q4⟩ := SlV.owned po q
      rw [e1] at s
      cases s
      exact q3 (.inr rfl)
    by_cases hj : i = j
    · subst hj
      rw [List.getElem?_set_ne n] at e2 s2
      obtain ⟨hi, _⟩ := at_i e1
      rw [List.getElem?_set_self (by rw [h.len]; exact hi)] at s1
      cases s1
      exact other k y p2 e2 s2
    · rw [List.getElem?_set_ne hj] at e1 s1
      by_cases hk : i = k
      · subst hk
        obtain ⟨hi, _⟩ := at_i e2
        rw [List.getElem?_set_self (by rw [h.len]; exact hi)] at s2
        cases s2
        exact other j x p1 e1 s1
      · rw [List.getElem?_set_ne hk] at e2 s2
        exact h.dis j k x y a n p1 p2 e1 e2 s1 s2
def DkR (K : PySem.W.Frag) (B : Hp) (p : Key × V) (q : Int × D) : Prop := p.1 = .inl q.1 ∧ Is K B p.2 q.2
def DctR (K : PySem.W.Frag) (kvs : List (Int × D)) : ObR := fun B _ o =>
  ∃ es : List (Key × V), o = .dK es ∧ Paired (DkR K B) es kvs
theorem DctR.mono {kvs : List (Int × D)} : (DctR K kvs).Mono := fun B1 B2 a o s ⟨es, e, p⟩ =>
  ⟨es, e, L2.Paired.mapP p fun x y z => ⟨z.1, z.2.mono s⟩⟩
/-- what the dict holds there -/
def dval (kvs : List (Int × D)) (n : Int) : Option D := (kvs.find? fun q => decide (q.1 = n)).map (·.2)
theorem dval_nil (n : Int) : dval [] n = none := rfl
theorem dval_cons (q : Int × D) (r : List (Int × D)) (n : Int) : dval (q :: r) n = if q.1 = n then some q.2 else dval r n := by
  unfold dval
  rw [List.find?_cons]
  by_cases h : q.1 = n
  · rw [decide_eq_true h, if_pos h]; rfl
  · rw [decide_eq_false h, if_neg h]
end
end Wt

namespace Wt
open PySem PySem.Spec PyProof.Rows L2
section
variable {P : Program} {w : World} {A : Around} {E : Value → Shared → Prop} {s : Shared}
end
/-- the unlike ones of ds, rising -/
def SortU (ds rs : List D) : Prop := rs.Nodup ∧ (∀ d, d ∈ rs ↔ d ∈ ds) ∧ rs.Pairwise fun a b => leD a b = true
section
variable {X : Cx}
end
section
variable {K : PySem.W.Frag} {l : Option Addr} {ρ : Ro} {m : Nat}
variable {Φ : Nat → D → Prop} {ta : TE}
end
end Wt

namespace Wt
open PySem PySem.Spec PyProof.Rows L2
section
variable {X : Cx}
end
section
variable {K : PySem.W.Frag} {l : Option Addr} {ρ : Ro} {m : Nat}
variable {Φ : Nat → D → Prop} {tl te : TE}
end
end Wt

namespace Wt
open PySem PySem.Spec PyProof.Rows L2
section
variable {K : PySem.W.Frag} {l : Option Addr} {ρ : Ro} {m : Nat}
variable {Φ : Nat → D → Prop} {Θ : Nat → Bool → Prop} {ta tb te : TE}
end
end Wt

namespace Wt
open PySem PySem.Spec PyProof.Rows L2
/-- an entry: the key, where it stands, where its value stands -/
abbrev Ent := NestedKey × Addr × Addr
abbrev entN (w : World) (e : Ent) : DictEntry := ⟨NestedKey.hash w e.1, .ref e.2.1, .ref e.2.2⟩
def RawN (w : World) (h : Heap) (a : Addr) (L : List Ent) : Prop :=
  (a == sysModules) = false ∧ ∃ es ep, h.DictRaw a es ep ∧ es.toList = L.map (entN w)
def DnO (w : World) (a : Addr) (L : List Ent) : HO := .ext fun h => RawN w h a L
section
variable {P : Program} {w : World} {A : Around} {E : Value → Shared → Prop} {s : Shared}
end
section
variable {X : Cx}
structure DnE (K : PySem.W.Frag) (B : Hp) (e : Ent) (q : List D × List D) : Prop where
  key : e.1 = (D.tup q.1).nk
  kd : D.keyeds q.1 = true
  dp : (D.tup q.1).nk.depth ≤ 8
  ki : Is K B (.ref e.2.1) (.tup q.1)
  vi : Is K B (.ref e.2.2) (.tup q.2)
theorem DnE.mono {K : PySem.W.Frag} {B B2 : Hp} {e : Ent} {q : List D × List D} (h : DnE K B e q) (s : Same B B2) : DnE K B2 e q :=
  ⟨h.key, h.kd, h.dp, h.ki.mono s, h.vi.mono s⟩
def DnR (w : World) (K : PySem.W.Frag) (kvs : List (List D × List D)) : ObR := fun B a o =>
  ∃ L, o = DnO w a L ∧ Paired (DnE K B) L kvs
theorem DnR.mono {w : World} {K : PySem.W.Frag} {kvs : List (List D × List D)} : (DnR w K kvs).Mono := fun B1 B2 a o s ⟨L, e, p⟩ =>
  ⟨L, e, L2.Paired.mapP p fun x y z => z.mono s⟩
theorem paired_memL {α β : Type} {F : α → β → Prop} : ∀ {l1 : List α} {l2 : List β}, Paired F l1 l2 → ∀ a ∈ l1, ∃ b ∈ l2, F a b
  | _, _, .nil, a, h => nomatch h
  | _, _, .cons r t, a, h => by
    rcases List.mem_cons.mp h with rfl | h
    · exact ⟨_, List.mem_cons_self, r⟩
    · obtain ⟨b, hb, q⟩ := paired_memL t a h
      exact ⟨b, List.mem_cons_of_mem _ hb, q⟩
end
end Wt

namespace Wt
open PySem PySem.Spec PyProof.Rows L2
section
variable {X : Cx}
end
end Wt

namespace Wt
open PySem PySem.Spec PyProof.Rows L2
section
variable {K : PySem.W.Frag} {l : Option Addr} {ρ : Ro} {m : Nat} {w : World}
variable {Φ : Nat → D → Prop} {te tk tv : TE} {Nx : Nat → Ro → Prop} {Rt : Nat → D → Prop}
end
end Wt

namespace Wt
open PySem PySem.Spec PyProof.Rows L2
section
variable {K : PySem.W.Frag} {l : Option Addr} {ρ : Ro} {m : Nat}
variable {Nx : Nat → Ro → Prop} {Rt : Nat → D → Prop} {t1 t2 tl te : TE}
end
end Wt

namespace Wt
open PySem PySem.Spec PyProof.Rows L2
section
variable {K : PySem.W.Frag} {l : Option Addr} {ρ : Ro} {m : Nat}
variable {Φ : Nat → D → Prop} {te : TE} {tA : TA}
end
end Wt

namespace Wt
open PySem PySem.Spec PyProof.Rows L2
section
variable {K : PySem.W.Frag} {l : Option Addr} {ρ : Ro} {m : Nat}
variable {Φ : Nat → D → Prop} {te : TE} {tA : TA}
end
end Wt

namespace Wt
open PySem PySem.Spec PyProof.Rows L2
section
variable {K : PySem.W.Frag} {l : Option Addr} {ρ : Ro} {m : Nat} {Φ : Nat → D → Prop}
variable {Nx : Nat → Ro → Prop} {Rt : Nat → D → Prop}
end
end Wt

namespace Wt
open PySem PySem.Spec PyProof.Rows L2
section
variable {K : PySem.W.Frag} {l : Option Addr} {ρ : Ro} {m : Nat} {Φ : Nat → D → Prop} {te : TE}
end
section
variable {K : PySem.W.Frag} {l : Option Addr} {ρ : Ro} {m : Nat} {Φ : Nat → D → Prop}
end
end Wt

namespace Wt
open PySem PySem.Spec PyProof.Rows L2
/-- an entry's key -/
structure KeyE (K : PySem.W.Frag) (B : Hp) (e : Ent) (t : List D) : Prop where
  key : e.1 = (D.tup t).nk
  kd : D.keyeds t = true
  dp : (D.tup t).nk.depth ≤ 8
  ki : Is K B (.ref e.2.1) (.tup t)
theorem KeyE.mono {K : PySem.W.Frag} {B B2 : Hp} {e : Ent} {t : List D} (h : KeyE K B e t) (s : Same B B2) : KeyE K B2 e t :=
  ⟨h.key, h.kd, h.dp, h.ki.mono s⟩
section
variable {X : Cx} {o e f : Expr} {apos cpos pos : Pos} {td ty tx : TE}
end
end Wt

namespace Wt
open PySem PySem.Spec PyProof.Rows L2
abbrev BxV := List D × Int × Int
/-- a dict whose entries are told -/
def DnLR (w : World) (L : List Ent) : ObR := fun _ a o => o = DnO w a L
theorem DnLR.mono {w : World} {L : List Ent} : (DnLR w L).Mono := fun _ _ _ _ _ h => h
structure BxE (K : PySem.W.Frag) (B H : Hp) (e : Ent) (q : BxV) : Prop where
  key : KeyE K B e q.1
  val : H e.2.2 = some (.lst [.int q.2.1, .int q.2.2])
abbrev bxs (L : List Ent) : List Addr := L.map (·.2.2)
theorem BxE.keys {K : PySem.W.Frag} {B H : Hp} : ∀ {L : List Ent} {kvs : List BxV}, Paired (BxE K B H) L kvs → Paired (KeyE K B) L (kvs.map (·.1))
  | _, _, .nil => .nil
  | _, _, .cons r p => .cons r.key (BxE.keys p)
theorem BxE.at {K : PySem.W.Frag} {B H : Hp} : ∀ {L : List Ent} {kvs : List BxV}, Paired (BxE K B H) L kvs → ∀ e ∈ L, ∃ q ∈ kvs, BxE K B H e q :=
  fun p => paired_memL p
theorem BxE.more {K : PySem.W.Frag} {B H B2 H2 : Hp} (s : Same B B2) : ∀ {L : List Ent} {kvs : List BxV}, (∀ z ∈ bxs L, H2 z = H z) → Paired (BxE K B H) L kvs → Paired (BxE K B2 H2) L kvs
  | _, _, _, .nil => .nil
  | _, _, k, .cons r p => .cons ⟨r.key.mono s, by rw [k _ List.mem_cons_self]; exact r.val⟩ (BxE.more s (fun z hz => k z (List.mem_cons_of_mem _ hz)) p)
section
variable {K : PySem.W.Frag} {l : Option Addr} {w : World} {i : Nat} {ts tu tb : TS} {ρ : Ro} {m : Nat} {kvs : List BxV} {Nx Nx' : Nat → Ro → List BxV → Prop}
variable {tl te tk : TE}
end
end Wt

namespace Wt
open PySem PySem.Spec PyProof.Rows L2
section
variable {K : PySem.W.Frag} {l : Option Addr} {w : World} {i : Nat} {ts tu tb : TS} {ρ : Ro} {m : Nat} {kvs : List BxV} {Nx Nx' : Nat → Ro → List BxV → Prop}
variable {tl te tk : TE}
end
structure VlE (K : PySem.W.Frag) (B : Hp) (e : Ent) (q : List D × D) : Prop where
  key : KeyE K B e q.1
  vi : Is K B (.ref e.2.2) q.2
theorem VlE.mono {K : PySem.W.Frag} {B B2 : Hp} {e : Ent} {q : List D × D} (h : VlE K B e q) (s : Same B B2) : VlE K B2 e q := ⟨h.key.mono s, h.vi.mono s⟩
def DvR (w : World) (K : PySem.W.Frag) (kvs : List (List D × D)) : ObR := fun B a o => ∃ L, o = DnO w a L ∧ Paired (VlE K B) L kvs
theorem DvR.mono {w : World} {K : PySem.W.Frag} {kvs : List (List D × D)} : (DvR w K kvs).Mono := fun B1 B2 a o s ⟨L, e, p⟩ =>
  ⟨L, e, L2.Paired.mapP p fun x y z => z.mono s⟩
section
variable {K : PySem.W.Frag} {l : Option Addr} {w : World} {i : Nat} {ts tu tb : TS} {ρ : Ro} {m : Nat} {kvs : List BxV}
variable {tl te tk : TE} {Z : Addr → Prop} {B H : Hp} {σ : L2.St} {Nx : Nat → Ro → Prop} {Rt : Nat → D → Prop} {Φ : Nat → D → Prop}
variable {tA : TA}
end
end Wt

namespace Wt
open PySem PySem.Spec PyProof.Rows L2
section
variable {X : Cx}
end
section
variable {K : PySem.W.Frag} {l : Option Addr} {ρ : Ro} {m : Nat} {Φ : Nat → D → Prop}
end
theorem op_inDE {X : Cx} (hu : X.A.units + 200 < cLine) : OpR X (compareOp .In) (rInD X.K) := op_inD (by omega)
section
variable {K : PySem.W.Frag} {l : Option Addr} {ρ : Ro} {m : Nat} {Φ : Nat → D → Prop}
theorem v_inDL {a : D} {ds : List D} (ha : Eqs a) (hb : Eqs (.lst ds))
    (q : Φ m (.bl ((D.pys ds).any fun z => PyData.eqv z a.py))) :
    VvC K l ρ (fun vs H Q => ∃ x y, vs = [x, y] ∧ rInD K x y H Q) [a, .lst ds] m Φ := by
  intro Z B H σ vs Q ok is k
  obtain ⟨v, w, rfl, h, h2⟩ := isAll2 is
  exact ⟨_, _, rfl, _, _, h.dp ok.sub ha.plain, h2.dp ok.sub hb.plain,
    ha.shaped, hb.shaped, k _ _ m B H ok Fr.refl (.bl _) q⟩
end
abbrev entT (w : World) (e : Ent) : DictEntry := ⟨NestedKey.hash w e.1, .ref e.2.1, .bool true⟩
def RawT (w : World) (h : Heap) (a : Addr) (L : List Ent) : Prop :=
  (a == sysModules) = false ∧ ∃ es ep, h.DictRaw a es ep ∧ es.toList = L.map (entT w)
def DtO (w : World) (a : Addr) (L : List Ent) : HO := .ext fun h => RawT w h a L
section
variable {P : Program} {w : World}
end
section
variable {X : Cx} {o e f : Expr} {apos cpos pos : Pos} {td ty tx : TE}
end
def DtR (w : World) (K : PySem.W.Frag) (ks : List (List D)) : ObR := fun B a o => ∃ L, o = DtO w a L ∧ Paired (KeyE K B) L ks
theorem DtR.mono {w : World} {K : PySem.W.Frag} {ks : List (List D)} : (DtR w K ks).Mono := fun B1 B2 a o s ⟨L, e, p⟩ =>
  ⟨L, e, L2.Paired.mapP p fun x y z => z.mono s⟩
section
variable {K : PySem.W.Frag} {l : Option Addr} {ρ : Ro} {m : Nat} {w : World}
variable {Φ : Nat → D → Prop} {te tk tv : TE} {Nx : Nat → Ro → Prop} {Rt : Nat → D → Prop}
end
end Wt

namespace Wt
open PySem PySem.Spec PyProof.Rows L2
section
variable {K : PySem.W.Frag} {l : Option Addr} {ρ : Ro} {m : Nat}
variable {Φ : Nat → D → Prop} {tl te : TE} {tt : TT} {tA : TA}
variable {Z : Addr → Prop} {B H : Hp} {σ : L2.St}
end
end Wt

namespace Wt
open PySem PySem.Spec PyProof.Rows L2
section
open PySem.SeqAt AutoSeq1 MeetsSeq
variable {A : Around} {s : Shared}
end
section
variable {K : PySem.W.Frag} {l : Option Addr} {ρ : Ro} {m : Nat} {Φ : Nat → D → Prop} {te : TE}
end
end Wt

namespace Wt
open PySem PySem.Spec PyProof.Rows L2 HT
section
variable {prog : Program} {w : World} {A : Around}
variable {E : Value → Shared → Prop} {s : Shared}
end
section
variable {X : Cx}
end
section
variable {K : PySem.W.Frag} {l : Option Addr} {ρ : Ro} {m : Nat}
variable {Φ : Nat → D → Prop} {te : TE} {B : Hp}
end
end Wt

namespace Wt
open PySem PySem.Spec PyProof.Rows L2
def DsR (ts : List Str) : ObR := fun _ _ o => ∃ kvs : List (Key × V), o = .dK kvs ∧ ∀ s : Str, (valV kvs (.inr s)).isSome = true ↔ s ∈ ts
theorem DsR.mono {ts : List Str} : ObR.Mono (DsR ts) := fun _ _ _ _ _ h => h
section
variable {K : PySem.W.Frag} {l : Option Addr} {ρ : Ro} {m : Nat}
variable {Nx : Nat → Ro → Prop} {Rt : Nat → D → Prop} {Φ : Nat → D → Prop} {te tk : TE}
end
end Wt

namespace Wt
open PySem PySem.Spec PyProof.Rows L2
section
variable {K : PySem.W.Frag} {l : Option Addr} {ρ : Ro} {m : Nat}
variable {Φ : Nat → D → Prop} {ts : TS} {tk tx ta tb : TE}
variable {Z : Addr → Prop} {B H : Hp} {σ : L2.St}
open Classical in
/-- the heap without what stands at p -/
noncomputable def less1 (H : Hp) (p : Addr) : Hp := fun a => if a = p then none else H a
theorem less1_ne {p a : Addr} (h : a ≠ p) : less1 H p a = H a := if_neg h
theorem Ok.drop {p : Addr} (h : Ok K l (fun a => Z a ∨ a = p) m B H σ ρ) (hz : ¬ Z p) : Ok K l Z m B (less1 H p) σ ρ := by
  obtain ⟨p1, p2, p3⟩ := h.zs p (.inr rfl)
  refine ⟨⟨fun a o e => ?_, fun a e => ⟨?_, (h.hand a e).2⟩, fun z q => ?_⟩, h.len, fun i s e => ?_, h.dis⟩
  · rw [less1_ne (fun n => by rw [n, p2] at e; cases e)]
    exact h.sub a o e
  · obtain ⟨g, s, c, q, r⟩ := (h.hand a e).1
    exact ⟨g, s, c, (less1_ne (fun (n : a = p) => p3 (n ▸ e))).trans q, r⟩
  · obtain ⟨q1, q2, q3⟩ := h.zs z (.inl q)
    exact ⟨by rw [less1_ne (fun (n : z = p) => hz (n ▸ q))]; exact q1, q2, q3⟩
  · obtain ⟨v, e1, q⟩ := h.sl i s e
    refine ⟨v, e1, ?_⟩
    cases s with
    | dat d => exact q
    | hand => exact q
    | own ds =>
      obtain ⟨a, xs, rfl, q1, q2, q3, q4, q5⟩ := q
      exact ⟨a, xs, rfl, (less1_ne (fun n => q3 (.inr n))).trans q1, q2, fun z => q3 (.inl z), q4, q5⟩
    | obj R =>
      obtain ⟨a, o, rfl, q1, q2, q3, q4, q5, q6⟩ := q
      exact ⟨a, o, rfl, (less1_ne (fun n => q3 (.inr n))).trans q1, q2, fun z => q3 (.inl z), q4, q5, q6⟩
variable {tk2 tv tv2 : TE}
end
end Wt

namespace Wt
open PySem PySem.Spec PyProof.Rows L2
section
variable {K : PySem.W.Frag} {l : Option Addr} {ρ : Ro} {m : Nat}
variable {Ψ : Nat → List D → Prop} {Φ : Nat → D → Prop} {te tl : TE} {tA : TA} {ti ti2 : TI} {tt : TT}
end
section
variable {K : PySem.W.Frag} {l : Option Addr} {ρ : Ro} {m : Nat} {Φ : Nat → D → Prop}
end
end Wt

namespace Wt
open PySem PySem.Spec PyProof.Rows L2
section
variable {K : PySem.W.Frag} {l : Option Addr} {ρ : Ro} {m : Nat} {Φ : Nat → D → Prop}
end
end Wt

namespace PySem.W
open PySem PySem.Spec PySem.Calls PyProof.Rows PySem.SeqAt
section
variable {prog : Program} {w : World} {A : Around} {E : Value → Shared → Prop} {s : Shared}
end
end PySem.W
namespace Wt
open PySem PySem.Spec PyProof.Rows L2
section
variable {K : PySem.W.Frag} {l : Option Addr} {ρ : Ro} {m : Nat} {Φ : Nat → D → Prop} {ta tb te : TE} {tt : TT}
end
end Wt

namespace Wt
open PySem PySem.Spec PyProof.Rows L2
section
variable {K : PySem.W.Frag} {l : Option Addr} {ρ : Ro} {m : Nat} {Nx : Nat → Ro → Prop} {Rt : Nat → D → Prop} {te : TE} {tA : TA}
variable {Φ : Nat → D → Prop}
end
end Wt

namespace Wt
open PySem PySem.Spec PyProof.Rows L2
abbrev BxL := List D × List D
structure BlE (K : PySem.W.Frag) (B H : Hp) (e : Ent) (q : BxL) : Prop where
  key : KeyE K B e q.1
  val : ∃ vs, H e.2.2 = some (.lst vs) ∧ IsAll K B vs q.2
theorem BlE.keys {K : PySem.W.Frag} {B H : Hp} : ∀ {L : List Ent} {kvs : List BxL}, Paired (BlE K B H) L kvs → Paired (KeyE K B) L (kvs.map (·.1))
  | _, _, .nil => .nil
  | _, _, .cons r p => .cons r.key (BlE.keys p)
theorem BlE.more {K : PySem.W.Frag} {B H B2 H2 : Hp} (s : Same B B2) : ∀ {L : List Ent} {kvs : List BxL}, (∀ z ∈ bxs L, H2 z = H z) → Paired (BlE K B H) L kvs → Paired (BlE K B2 H2) L kvs
  | _, _, _, .nil => .nil
  | _, _, k, .cons r p => .cons ⟨r.key.mono s, by
      obtain ⟨vs, e, i⟩ := r.val
      exact ⟨vs, by rw [k _ List.mem_cons_self]; exact e, i.mono s⟩⟩ (BlE.more s (fun z hz => k z (List.mem_cons_of_mem _ hz)) p)
section
variable {K : PySem.W.Frag} {l : Option Addr} {w : World} {i : Nat} {ts tu tb : TS} {ρ : Ro} {m : Nat} {kvs : List BxL} {Nx Nx' : Nat → Ro → List BxL → Prop}
variable {tl te tk : TE} {tA : TA}
open Classical in
noncomputable def pushQ (t : List D) (d : D) (q : BxL) : BxL := if q.1 = t then (q.1, q.2 ++ [d]) else q
theorem pushQ_pos {t : List D} {d : D} {q : BxL} (h : q.1 = t) : pushQ t d q = (q.1, q.2 ++ [d]) := if_pos h
theorem pushQ_neg {t : List D} {d : D} {q : BxL} (h : ¬ q.1 = t) : pushQ t d q = q := if_neg h
open Classical in
noncomputable def pushB (kvs : List BxL) (t : List D) (d : D) : List BxL :=
  if t ∈ kvs.map (·.1) then kvs.map (pushQ t d) else kvs ++ [(t, [d])]
theorem pushB_in {kvs : List BxL} {t : List D} {d : D} (h : t ∈ kvs.map (·.1)) : pushB kvs t d = kvs.map (pushQ t d) := if_pos h
theorem pushB_out {kvs : List BxL} {t : List D} {d : D} (h : t ∉ kvs.map (·.1)) : pushB kvs t d = kvs ++ [(t, [d])] := if_neg h
open Classical in
noncomputable def putQ (t : List D) (u : List D) (q : BxL) : BxL := if q.1 = t then (q.1, u) else q
theorem putQ_pos {t u : List D} {q : BxL} (h : q.1 = t) : putQ t u q = (q.1, u) := if_pos h
theorem putQ_neg {t u : List D} {q : BxL} (h : ¬ q.1 = t) : putQ t u q = q := if_neg h
end
end Wt

namespace Wt
open PySem PySem.Spec PyProof.Rows L2
def dputI (kvs : List (Int × D)) (n : Int) (d : D) : List (Int × D) :=
  if (kvs.any fun q => decide (q.1 = n)) = true then kvs.map (fun q => if q.1 = n then (q.1, d) else q) else kvs ++ [(n, d)]
section
variable {K : PySem.W.Frag} {B : Hp}
end
theorem dval_put (kvs : List (Int × D)) (n : Int) (d : D) (k : Int) : dval (dputI kvs n d) k = if n = k then some d else dval kvs k := by
  have app : ∀ (a b : List (Int × D)), dval (a ++ b) k = (dval a k).or (dval b k) := fun a b => by
    unfold dval
    rw [List.find?_append]
    cases a.find? fun q => decide (q.1 = k) <;> rfl
  unfold dputI
  split
  · rename_i h
    clear app
    induction kvs with
    | nil => simp at h
    | cons q r ih =>
      rw [List.map_cons, dval_cons, dval_cons]
      by_cases hq : q.1 = n
      · rw [if_pos hq]
        by_cases hk : n = k
        · rw [if_pos (hq.trans hk), if_pos hk]
        · rw [if_neg (fun z => hk (hq.symm.trans z)), if_neg hk, if_neg (fun z => hk (hq.symm.trans z))]
          by_cases hr : (r.any fun q => decide (q.1 = n)) = true
          · rw [ih hr, if_neg hk]
          · have : r.map (fun q => if q.1 = n then (q.1, d) else q) = r := by
              conv => rhs; rw [← List.map_id r]
              refine List.map_congr_left fun x hx => ?_
              rw [if_neg]
              · rfl
              · intro z
                exact hr (List.any_eq_true.mpr ⟨x, hx, decide_eq_true z⟩)
            rw [this]
      · rw [if_neg hq]
        have hr : (r.any fun q => decide (q.1 = n)) = true := by
          rw [List.any_cons, decide_eq_false hq, Bool.false_or] at h
          exact h
        rw [ih hr]
        by_cases hk : n = k
        · rw [if_pos hk, if_neg (fun z => hq (z.trans hk.symm)), if_pos hk]
        · rw [if_neg hk, if_neg hk]
  · rename_i h
    rw [app]
    by_cases hk : n = k
    · subst hk
      have : dval kvs n = none := by
        unfold dval
        rw [Option.map_eq_none_iff, List.find?_eq_none]
        intro q hq z
        exact h (List.any_eq_true.mpr ⟨q, hq, z⟩)
      rw [this, if_pos rfl, dval_cons, if_pos rfl]
      rfl
    · rw [dval_cons, if_neg hk, if_neg hk, dval_nil]
      cases dval kvs k <;> rfl
section
variable {K : PySem.W.Frag} {l : Option Addr} {w : World} {i : Nat} {ts tu tb tf tr : TS} {ρ : Ro} {m : Nat} {kvs : List BxL} {Nx : Nat → Ro → List BxL → Prop}
variable {tl te tk : TE} {tA : TA} {Nx0 : Nat → Ro → Prop} {Rt : Nat → D → Prop}
end
end Wt

namespace Wt
open PySem PySem.Spec PyProof.Rows L2
/-- what is put into the dict at the address, by key and value -/
abbrev PutT := Hp → Addr → V → V → (Hp → Prop) → Prop
section
variable {K : PySem.W.Frag} {l : Option Addr} {ρ : Ro} {m : Nat} {Nx : Nat → Ro → Prop} {Rt : Nat → D → Prop}
variable {tl tk tv : TE} {tA : TA} {mk : Addr → HO} {put : PutT}
/-- the dict at A so far -/
def DcW (K : PySem.W.Frag) (l : Option Addr) (Z : Addr → Prop) (ρ : Ro) (σ : L2.St) (m : Nat) (B H : Hp) (A : Addr) (S : ObR) (H' : Hp) : Prop :=
  ∃ B' o, Ok K l (fun a => Z a ∨ a = A) m B' H' σ ρ ∧ Fr Z B H B' H' ∧ H' A = some o ∧ S B' A o
structure DcStep (K : PySem.W.Frag) (put : PutT) (S : Nat → ObR) (key val : Nat → D) (n : Nat) : Prop where
  mono : ∀ c, (S c).Mono
  step : ∀ (c : Nat) (B H : Hp) (A : Addr) (o : HO) (y z : V) (R : Hp → Prop), c < n → Same B H → H A = some o → S c B A o → Is K B y (key c) → Is K B z (val c) →
    (∀ o', S (c + 1) B A o' → R (upd H A o')) → put H A y z R
theorem dcw_turn {Z : Addr → Prop} {σ : L2.St} {B H H' : Hp} {A a2 : Addr} {i j c n : Nat} {x y : V} {d e : D} {S : Nat → ObR} {key val : Nat → D} (st : DcStep K put S key val n) (hz : ¬ Z A)
    (hi : ρ[i]? = some none) (hj : ρ[j]? = some none) (hij : i ≠ j) (hc : c < n)
    (hk : EvC K l tk ((ρ.set i (some (.dat d))).set j (some (.dat e))) m fun n2 y => n2 = m ∧ y = key c)
    (hv : EvC K l tv ((ρ.set i (some (.dat d))).set j (some (.dat e))) m fun n2 y => n2 = m ∧ y = val c)
    {B' : Hp} {o : HO} (ok : Ok K l (fun a => Z a ∨ a = A) m B' H' σ ρ) (fr : Fr Z B H B' H') (hA : H' A = some o) (hS : S c B' A o)
    (hp : SqT K H' a2 [x, y]) (px : Is K B' x d) (py : Is K B' y e) :
    g2 K i j (.ref a2) (wipe σ [i, j]) H' fun σ2 H3 => wipe σ2 [i, j] = wipe σ [i, j] ∧ tk σ2 H3 fun y H4 => tv σ2 H4 fun z H5 => put H5 A y z (DcW K l Z ρ σ m B H A (S (c + 1))) := by
  refine ⟨a2, [x, y], rfl, hp, rfl, x, [y], rfl, y, [], rfl, rfl, ?_⟩
  have e1 : ((wipe σ [i, j]).set i (some x)).set j (some y) = (σ.set i (some x)).set j (some y) := by
    show ((((σ.set j none).set i none).set i (some x)).set j (some y)) = _
    rw [List.set_set, List.set_comm _ _ hij, List.set_set, List.set_comm _ _ (Ne.symm hij)]
  have e2 : wipe ((σ.set i (some x)).set j (some y)) [i, j] = wipe σ [i, j] := by
    show (((σ.set i (some x)).set j (some y)).set j none).set i none = (σ.set j none).set i none
    rw [List.set_set, List.set_comm _ _ hij, List.set_set]
  rw [e1]
  refine ⟨e2, ?_⟩
  have hj2 : (ρ.set i (some (.dat d)))[j]? = some none := by rw [List.getElem?_set_ne hij]; exact hj
  refine hk _ B' H' _ _ ((ok.set px).set py) fun yk dk n1 B1 H1 o1 f1 i1 g1 => ?_
  obtain ⟨rfl, rfl⟩ := g1
  refine hv _ B1 H1 _ _ o1 fun zk dz n2 B2 H2 o2 f2 i2 g2' => ?_
  obtain ⟨rfl, rfl⟩ := g2'
  have hA2 : H2 A = some o := by rw [f2.kept A (.inr rfl), f1.kept A (.inr rfl)]; exact hA
  have o3 := (o2.unset hj2).unset hi
  refine st.step c B2 H2 A o yk zk _ hc o3.sub hA2 (st.mono c _ _ _ _ (f1.sub.trans f2.sub) hS) (i1.mono f2.sub) i2 fun o' hS' => ?_
  refine ⟨B2, o', o3.write (.inr rfl), ⟨(fr.sub.trans f1.sub).trans f2.sub, fun z hz' => ?_⟩, upd_same, hS'⟩
  rw [upd_ne (fun (q : z = A) => hz (q ▸ hz')), f2.kept z (.inl hz'), f1.kept z (.inl hz')]
  exact fr.kept z hz'
end
end Wt

namespace Wt
open PySem PySem.Spec PyProof.Rows L2
section
variable {X : Cx}
variable {wi : TI} {g : TG} {tk tv : TE} {tg kx vx iter : Expr} {scope : Scope} {own : List (Str × Nat)} {pos : Pos}
end
end Wt

namespace Wt
open PySem PySem.Spec PyProof.Rows L2
open Classical in
noncomputable def putV (kvs : List (List D × D)) (t : List D) (d : D) : List (List D × D) :=
  if t ∈ kvs.map (·.1) then kvs.map (fun q => if q.1 = t then (q.1, d) else q) else kvs ++ [(t, d)]
open Classical in
theorem putV_in {kvs : List (List D × D)} {t : List D} {d : D} (h : t ∈ kvs.map (·.1)) : putV kvs t d = kvs.map (fun q => if q.1 = t then (q.1, d) else q) := if_pos h
theorem putV_out {kvs : List (List D × D)} {t : List D} {d : D} (h : t ∉ kvs.map (·.1)) : putV kvs t d = kvs ++ [(t, d)] := if_neg h
open Classical in
theorem putV_nd {kvs : List (List D × D)} {t : List D} {d : D} (h : (kvs.map (·.1)).Nodup) : ((putV kvs t d).map (·.1)).Nodup := by
  by_cases e : t ∈ kvs.map (·.1)
  · rw [putV_in e, List.map_map]
    have : ((fun q : List D × D => q.1) ∘ fun q => if q.1 = t then (q.1, d) else q) = fun q => q.1 := by
      funext q
      show (if q.1 = t then (q.1, d) else q).1 = q.1
      split <;> rfl
    rw [this]
    exact h
  · rw [putV_out e, List.map_append, List.nodup_append]
    exact ⟨h, by simp, fun a ha b hb z => e (by rw [List.map_singleton, List.mem_singleton] at hb; have hb : b = t := hb; rw [← hb, ← z]; exact ha)⟩
section
variable {K : PySem.W.Frag} {B : Hp} {w : World}
end
section
variable {K : PySem.W.Frag} {l : Option Addr} {ρ : Ro} {m : Nat} {Nx : Nat → Ro → Prop} {Rt : Nat → D → Prop} {w : World}
variable {te tk ta tc : TE} {tA : TA} {ti : TI} {tb : TS} {Φ : Nat → D → Prop}
end
end Wt

namespace Wt
open PySem PySem.Spec PyProof.Rows L2
section
variable {X : Cx} {wi : TI} {g : TG} {tk tv : TE} {tg kx vx iter : Expr} {scope : Scope} {own : List (Str × Nat)} {pos : Pos}
end
end Wt

namespace Wt
open PySem PySem.Spec PyProof.Rows L2
def ItEL (K : PySem.W.Frag) (a : Addr) : It where
  go := fun i H => ∃ xs : List V, SqL K H a xs ∧ i < xs.length
  yld := fun i H v H' => ∃ T x, v = .ref T ∧ H T = none ∧
    H' = upd H T (.tup [.int (i : Nat), x]) ∧
    ∀ xs, SqL K H a xs → xs[i]? = some x
  stop := fun i H => ∃ xs : List V, SqL K H a xs ∧ i = xs.length
def tnEL (n a i : Nat) (h : Heap) : Prop :=
  (∃ old, IsEnum h (n + 1) n ((0 : Int) + (i : Int)) old) ∧
    h.IsListIter n a i
theorem goesEL {prog : Program} {w : World} {A : Around} {elts : List Expr}
    {k : Nat} {pos : Pos} {n a : Nat} (hh : A.handled = none) (ha : a < n)
    (xs : Array Value) :
    GoesN prog w A (.Tuple elts k pos) (n + 1) ((n + 1) :: [n, a])
      [n + 1, n] xs.size
      (fun i h0 v h => ∃ T t x, v = .ref T ∧ h0.objs.size ≤ T ∧
        xs[i]? = some x ∧ h.IsTuple T #[.int ((0 : Int) + (i : Int)) t, x])
      (fun i h => (∃ old, IsEnum h (n + 1) n ((0 : Int) + (i : Int)) old) ∧
        h.IsListIter n a i ∧ h.IsList a xs) :=
  GoesN.enumFrom 0
    (Draws.list (A := A.in1) hh n a (Nat.ne_of_lt ha) xs) (n + 1)
    (Nat.succ_ne_self n)
    (by
      intro z
      simp only [List.mem_cons, List.not_mem_nil, or_false] at z
      rcases z with z | z <;> (have z : (_ : Nat) = _ := z; omega))
    List.mem_cons_self
theorem turnEL {P : Program} {w : World} {K : PySem.W.Frag}
    {elts : List Expr} {kk : Nat} {tpos : Pos} {n a : Nat} (ha : a < n) :
    Turn P w K (.Tuple elts kk tpos) (ItEL K a) [n + 1, n] (n + 1)
      (tnEL n a) where
  mem := List.mem_cons_self
  obj := fun i h st x hx => by
    obtain ⟨⟨old, he⟩, ⟨o1, e1, _, d1⟩⟩ := st
    simp only [List.mem_cons, List.not_mem_nil, or_false] at hx
    rcases hx with rfl | rfl
    · exact ⟨_, he, nofun⟩
    · exact ⟨o1, e1, fun v q => by rw [d1] at q; cases q⟩
  keep := fun i h h' st k => by
    obtain ⟨⟨old, he⟩, h1⟩ := st
    exact ⟨⟨old, k _ (by simp) _ he⟩, h1.at fun o q => k n (by simp) o q⟩
  item := by
    intro X hP hw hK hcl i pins s σ H E I hf st hg
    subst hP hw hK
    obtain ⟨he, h1⟩ := id st
    obtain ⟨xs, q1, hi⟩ := hg
    obtain ⟨its1, r1, p1, _⟩ := I.list q1
    have l1 := r1.length
    have lt : ∀ d ∈ [n + 1, n], d < s.heap.objs.size := by
      intro d hd
      obtain ⟨old, he⟩ := he
      obtain ⟨o1, e1, _⟩ := h1
      simp only [List.mem_cons, List.not_mem_nil, or_false] at hd
      rcases hd with rfl | rfl
      · exact Heap.lt_size he
      · exact Heap.lt_size e1
    refine (goesEL (I.ok.hd hcl) ha its1.toArray).goes i s _ E
      (by simp only [List.size_toArray]; omega) ⟨he, h1, p1.isList⟩
      fun v h' tk hY st' hk htk => ?_
    obtain ⟨T, t, x, rfl, hT, e1, hTu⟩ := hY
    obtain ⟨vx, ex⟩ : ∃ vx, xs[i]? = some vx :=
      ⟨xs[i]'hi, List.getElem?_eq_getElem _⟩
    obtain ⟨u1, g1, k1⟩ := r1.get ex
    rw [List.getElem?_toArray, g1] at e1
    cases e1
    have new : ObjOk X.prog X.w (upd H T (.tup [.int (i : Nat), vx])) h' T
        (.tup [.int (i : Nat), vx]) :=
      ⟨by show 2 ≤ sizeLine; decide, [_, x],
        .cons ⟨t, by rw [Int.zero_add]⟩ (.cons k1 .nil), hTu⟩
    have I1 := I.turnedNew (t' := tk) (ch := [n + 1, n])
      (fun d o hd q => hk d o hd q) hf hT new
    obtain ⟨z1, z2, z3⟩ := st'
    refine ⟨.ref T, _, I1, rfl, ⟨T, vx, rfl, I.hok.fresh hT, rfl,
      fun l hl => ?_⟩, ⟨z1, z2⟩, fun d hd => ?_⟩
    · rw [I.list_inj hl q1]; exact ex
    · have := lt d hd
      rw [upd_ne (fun (z : d = T) =>
        Nat.lt_irrefl d (Nat.lt_of_lt_of_le this (z ▸ hT)))]
      exact (hf d hd).1
  done := by
    intro X hP hw hK hcl i pins s σ H E I hf st hg
    subst hP hw hK
    obtain ⟨he, h1⟩ := st
    obtain ⟨xs, q1, hi⟩ := hg
    obtain ⟨its1, r1, p1, _⟩ := I.list q1
    have e : its1.toArray.size = i := by
      have l1 := r1.length
      simp only [List.size_toArray]
      omega
    refine (goesEL (prog := X.prog) (w := X.w) (elts := elts) (k := kk)
      (pos := tpos) (I.ok.hd hcl) ha its1.toArray).stops s _ E
      (by rw [e]; exact ⟨he, h1, p1.isList⟩) fun h' tk hk htk => ?_
    exact I.turnedL (t' := tk) (ch := [n + 1, n])
      (fun d o hd q => hk d o hd q) hf
  self := fun A i s Q E st h => let ⟨⟨_, he⟩, _⟩ := st; wpAny_pyIter_enum he h
theorem callEL {prog : Program} {w : World} {A : Around}
    {E : Value → Shared → Prop} {s : Shared} {a : Addr} {items : Array Value}
    {Q : Value → Shared → Prop} (hT : s.heap.IsList a items)
    (h : ∀ h', IsEnum h' (s.heap.objs.size + 1) s.heap.objs.size 0 .none →
      h'.IsListIter s.heap.objs.size a 0 →
      (∀ b o, s.heap.get? b = some o → h'.get? b = some o) →
      Q (.ref (s.heap.objs.size + 1)) { s with heap := h' }) :
    wpAny (model prog w) A (call (.type "enumerate") [.ref a]) Q E s := by
  refine callType_new F.called_enumerate (by decide)
    (F.typeCall_enumerate_1 _) (F.newCall_enumerate_1 _)
    (fun obj => F.args_object_init_2 obj _) F.entry_enumerate_new
    (meetsE (begins_list a items)) ⟨hT, ?_⟩
  have hz : ∀ o : Obj, (s.heap.push o).objs.size = s.heap.objs.size + 1 :=
    fun o => Heap.size_push ..
  show _ ∧ _
  rw [hz]
  have he : ∀ o : Obj, IsEnum ((s.heap.push o).push (enumO s.heap.objs.size))
      (s.heap.objs.size + 1) s.heap.objs.size 0 .none := by
    intro o
    have := Heap.get?_push_size (s.heap.push o)
      (o := enumO s.heap.objs.size) rfl
    rw [hz] at this
    exact this
  exact ⟨⟨_, he _, rfl⟩, h _ (he _) ⟨_, Heap.get?_push_of_some _
    (Heap.get?_push_size _ rfl), rfl, rfl⟩ fun b o x =>
      Heap.get?_push_of_some _ (Heap.get?_push_of_some _ x)⟩
def iEnL (K : PySem.W.Frag) (ta : TA) : TI := fun σ H R =>
  ta σ H fun vs H1 => ∃ a xs, vs = [.ref a] ∧ SqL K H1 a xs ∧
    R (ItEL K a) H1
theorem pi_enL {X : Cx} {e : Expr} {ta : TA} {p pos tpos : Pos}
    {elts : List Expr} {kk : Nat} (hg : Gl X "enumerate")
    (hm : X.mg "enumerate" = none) (ha : PA X [e] ta)
    (hs : starEach [e] X.env = [(false, eval e X.env)] := by rfl) :
    PI X (.Tuple elts kk tpos) (.Call (.Name "enumerate" p) [e] [] pos)
      (iEnL X.K ta) := by
  refine ⟨fun pins s σ H R I h => ?_⟩
  refine Call_ (ld_blt I hg hm boot_enumerate
    (PyProof.Rows.callWith_type1 (thn (ha.run pos pins s σ H _ I h)
      fun us s1 ⟨vs, H1, I1, r1, q1⟩ => ?_) hs rfl))
  obtain ⟨a, xs, rfl, hq, q⟩ := q1
  cases r1 with
  | cons r rr =>
    cases rr
    cases r
    obtain ⟨its, rv, p', hz⟩ := I1.list hq
    have la : a < s1.heap.objs.size := p'.lt
    refine callEL (show s1.heap.IsList a its.toArray from p'.isList)
      fun h' he hit hk => wpAny_pyIter_enum he ?_
    have I2 : Inv X pins σ H1 { s1 with heap := h' } :=
      I1.kept (t' := s1.toks) hk
    refine ⟨s1.heap.objs.size + 1, _, _, _, H1, rfl, I2, turnEL la,
      ⟨⟨.none, by simpa using he⟩, hit⟩, fun d hd => ?_, q⟩
    have hle : s1.heap.objs.size ≤ d := by
      simp only [List.mem_cons, List.not_mem_nil, or_false] at hd
      rcases hd with z | z <;> (have z : (_ : Nat) = _ := z; omega)
    exact I1.fpOk hle (I1.hok.fresh hle)
theorem walk_enL {K : PySem.W.Frag} {a : Addr} {xs : List V} :
    Walk (ItEL K a) xs.length (fun H => SqL K H a xs)
      (YPair (fun i => some (.int (i : Nat))) (fun i => xs[i]?)) := by
  refine ⟨fun i _ hi q => ⟨xs, q, hi⟩, fun _ q => ⟨xs, q, rfl⟩,
    fun i H v H' _ q y => ?_⟩
  obtain ⟨T, x, h1, h2, h3, h4⟩ := y
  exact ⟨T, .int (i : Nat), x, h1, h2, h3, rfl, h4 xs q⟩
section
variable {K : PySem.W.Frag} {l : Option Addr} {ρ : Ro} {m : Nat}
variable {Φ : Nat → D → Prop} {Θ : Nat → Bool → Prop}
variable {Nx : Nat → Ro → Prop} {Rt : Nat → D → Prop} {ts tb : TS}
variable {ta te tl : TE} {t u : TT} {tA tK : TA}
end
end Wt

namespace Wt
open PySem PySem.Spec PyProof.Rows L2
section
variable {K : PySem.W.Frag} {l : Option Addr} {ρ : Ro} {m : Nat}
variable {Φ : Nat → D → Prop} {Nx : Nat → Ro → Prop} {Rt : Nat → D → Prop} {ts tb : TS} {ta te tl : TE} {tA : TA}
end
end Wt

namespace Wt
open PySem PySem.Spec PyProof.Rows L2
section
variable {K : PySem.W.Frag} {l : Option Addr} {ρ : Ro} {m : Nat}
variable {Nx : Nat → Ro → Prop} {Rt : Nat → D → Prop} {Φ : Nat → D → Prop} {te tk : TE}
end
end Wt

namespace Wt
open PySem PySem.Spec PyProof.Rows L2
section
variable {K : PySem.W.Frag} {l : Option Addr} {w : World} {i : Nat} {ts tu tb : TS} {ρ : Ro} {m : Nat} {kvs : List BxL} {Nx : Nat → Ro → List BxL → Prop}
variable {te : TE}
end
end Wt

namespace We
open PySem PySem.W PySem.Calls PyProof.Rows PySem.Spec
section
variable {prog : Program} {w : World} {A : Around} {E : Value → Shared → Prop} {K : Frag} {C fI cc cda : Addr} {hh : Heap} {g : Array GenState} {d : Drawn} {t : Nat} {os : OsState}
variable {mg mb : Str → Option Value} {qual txt fld file : Str} {params : Arguments} {scope : Scope} {dV kV doc pm ct oc ccl cl : Value} {an od cdd cld : Option Addr} {osl ccs csl : Array (Option Value)} {vs : Array Value} {tf : Tok} {ar : Arg}
variable {p0 p1 p2 p3 p4 p5 p6 p7 p8 p9 : Pos}
end
/-- the class at C makes exceptions with the field fld -/
structure ExF (K : Frag) (C : Addr) : Prop where
  cs : (clsIn K C).isSome = true
  exC : subIn K (.ref C) (.type "BaseException") = some true
  tyC : typeIn K (.ref C) = some (.type "type")
  kp : keepIn K (.ref C) = true
  ga : findIn K (.ref C) "__getattribute__" = some (some (.builtin "BaseException.__getattribute__"))
  gg : findIn K (.ref C) "__getattr__" = some none
  hd : hasDictIn K C = true
  cl : findIn K (.ref C) "__class__" = some (some (.builtin "object.__class__"))
  cg : specialIn K (.builtin "object.__class__") "__get__" = some (some (.builtin "getset_descriptor.__get__"))
  ct : takesIn K (.builtin "object.__class__") = some true
  mo : mroIn K C (.type "object") = some true
structure Ex (P : Program) (K : Frag) (mg : Str → Option Value) (C : Addr) (fld : Str) : Prop extends ExF K C where
  make : ∀ {w : World} {A : Around} {E : Value → Shared → Prop} {hh : Heap} {g : Array GenState} {d : Drawn} {t : Nat} {os : OsState} {mb : Str → Option Value} {u : Value} {Q : Value → Shared → Prop},
    K.In hh → hh.Ns mainGlobals mg → hh.Ns builtinsNs mb → (∀ x : Str, x ≠ "__name__" → mb x = bootBuiltins x) → hh.NoLimit → (A.under (.builtin "type.__call__" ⟨[.ref C, u], []⟩)).depth < recursionLimit →
    (∀ (e t0 dx : Addr) (h' : Heap) (t' : Nat), (∀ b o, hh.get? b = some o → h'.get? b = some o) → hh.objs.size ≤ e → hh.objs.size ≤ dx → dx ≠ e →
      h'.get? e = some (excObj C t0 (some dx) .none) → (∃ hs : Int, ∃ tk, h'.get? dx = some (dictOf [⟨hs, .str fld tk, u⟩] 1)) → Q (.ref e) ⟨h', g, d, t', os⟩) →
    wpAny (model P w) A (call (.ref C) [u]) Q E ⟨hh, g, d, t, os⟩
  no : findIn K (.ref C) fld = some none
end We

namespace Wt
open PySem PySem.Spec PyProof.Rows L2
/-- a caught exception, known from now on -/
def exh (a : Addr) (cls : Value) (d : Option Addr) : HO := .ext fun h => ∃ oe vs, h.get? a = some oe ∧ Zc cls d oe ∧ oe.data = .fields vs
theorem exh_ok {P : Program} {w : World} {H : Hp} {h : Heap} {a : Addr} {cls : Value} {d : Option Addr} {oe : Obj} {vs : Array Value} (e : h.get? a = some oe) (z : Zc cls d oe) (f : oe.data = .fields vs) : ObjOk P w H h a (exh a cls d) :=
  ⟨⟨oe, vs, e, z, f⟩, ⟨oe, e⟩, fun h1 h2 q k => by
    obtain ⟨o, v, q1, q2⟩ := q
    exact ⟨o, v, k _ q1, q2⟩⟩
section
variable {X : Cx} {x : Str} {C : Addr} {fld : Str} {e : Expr} {te : TE} {p pos : Pos} {k : Nat}
end
section
variable {X : Cx} {pins : List (Addr × Obj)} {σ : L2.St} {H : Hp} {s : Shared}
theorem Inv.known (I : Inv X pins σ H s) {a : Addr} {cls : Value} {d : Option Addr} {oe : Obj} {vs : Array Value} (ha : s.heap.get? a = some oe) (z : Zc cls d oe) (f : oe.data = .fields vs) (na : H a = none) (nL : a ≠ X.env.locals) (n0 : X.s_0.heap.get? a = none)
    (np : ∀ p ∈ X.pn ++ pins, p.1 ≠ a) : Inv X pins σ (upd H a (exh a cls d)) s := by
  have hne : ∀ {b : Addr} {o : HO}, H b = some o → b ≠ a := fun {b o} e z => by rw [z, na] at e; cases e
  have u : Un X.fs X.ex X.H_0 (upd H a (exh a cls d)) X.s_0.heap s.heap := ⟨I.base.keep, I.base.slot, fun b o e n hx => by
    have : b ≠ a := fun z => by rw [z, n0] at e; cases e
    rw [upd_ne this]
    exact I.base.free b o e n hx, I.base.there, fun b xs e => by
      have := I.base.tups b xs e
      rw [upd_ne (hne this)]; exact this, fun b o v e => by
      have := I.base.frzs b o v e
      rw [upd_ne (hne this)]; exact this, fun b ps e => by
      obtain ⟨m, q⟩ := I.base.tbls b ps e
      exact ⟨m, by rw [upd_ne (hne q)]; exact q⟩⟩
  refine ⟨I.ok, I.os, I.bare, u, I.loc, I.cell, by rw [upd_ne (Ne.symm nL)]; exact I.free, fun y c e => ?_, fun p hp => ?_, fun b o e => ?_, I.len⟩
  · have : c ≠ a := fun z => by
      obtain ⟨v, o, ho, hd⟩ := I.cell y c e
      rw [z, ha] at ho; cases ho
      rw [f] at hd; cases hd
    rw [upd_ne this]
    exact I.freeC y c e
  · obtain ⟨q1, q2, q3⟩ := I.pin p hp
    exact ⟨q1, by rw [upd_ne (np p hp)]; exact q2, q3⟩
  · by_cases hb : b = a
    · subst hb
      rw [upd_same] at e
      cases e
      exact exh_ok ha z f
    · rw [upd_ne hb] at e
      exact (I.hok b o e).stay (fun _ _ _ q => q) (fun c q => by rw [upd_ne (hne q)]; exact q) fun c xs q => by rw [upd_ne (hne q)]; exact q
end
section
variable {X : Cx} {x n : Str} {c : Value} {i : Nat} {body suite : List Stmt} {b₀ : Stmt} {np pos pos' : Pos} {tb : WX → TS} {ts : TS} {Wout : WX}
end
end Wt

namespace Wt
open PySem PySem.Spec PyProof.Rows L2
section
variable {P : Program} {w : World} {K : PySem.W.Frag} {mg : Str → Option Value} {base : Heap}
end
section
variable {X : Cx} {k : Nat} {f : Addr} {fd : FuncData} {ps : List Str} {sp : Sp} {dvs : List V} {ds : List Value} {W : WX} {x : Str} {p pos : Pos} {e : Expr} {es : List Expr} {t : TA}
end
def exR (K : PySem.W.Frag) (C : Addr) (f : Str) (d : D) : ObR := fun B a o => ∃ dd v, o = exh a (.ref C) (some dd) ∧ B dd = some (.xd [(f, v)]) ∧ Is K B v d
/-- isinstance(e, c) -/
def rIsX (K : PySem.W.Frag) : List V → Hp → VK → Prop := fun xs H Q => ∃ (a C d : Addr) (fs : List (Str × V)) (c : V) (cv : Value) (b : Bool), xs = [.ref a, c] ∧ H a = some (exh a (.ref C) (some d)) ∧ H d = some (.xd fs) ∧ ClsV c cv ∧ We.ExF K C ∧ PySem.W.kitOne K (.ref C) cv = some b ∧ Q (.bl b) H
/-- isinstance(e, (c, ..)) -/
def rIsXT (K : PySem.W.Frag) : List V → Hp → VK → Prop := fun xs H Q => ∃ (a C d tp : Addr) (fs : List (Str × V)) (cs : List V) (us : List Value) (b : Bool), xs = [.ref a, .ref tp] ∧ H tp = some (.tup cs) ∧ H a = some (exh a (.ref C) (some d)) ∧ H d = some (.xd fs) ∧ Paired ClsV cs us ∧ We.ExF K C ∧ PySem.W.kitAny K (.ref C) us = some b ∧ Q (.bl b) H
/-- e.f -/
def tXfH (K : PySem.W.Frag) (f : Str) (te : TE) : TE := fun σ H Q => te σ H fun x H1 => ∃ (a C dd : Addr) (fs : List (Str × V)) (v : V), x = .ref a ∧ H1 a = some (exh a (.ref C) (some dd)) ∧ H1 dd = some (.xd fs) ∧ We.ExF K C ∧ PySem.W.findIn K (.ref C) f = some none ∧ fs.lookup f = some v ∧ Q v H1
section
variable {X : Cx} {pins : List (Addr × Obj)} {σ : L2.St} {H : Hp} {s : Shared}
end
section
variable {X : Cx}
end
section
variable {K : PySem.W.Frag} {l : Option Addr} {ρ : Ro} {m : Nat} {W : WX}
variable {Φ : Nat → D → Prop} {Ψ : Nat → List D → Prop} {Ξ : Nat → Ro → Addr → Str → D → Prop} {te : TE} {ta tA : TA} {ts tu : TS} {tt : TT}
variable {Nx : Nat → Ro → Prop} {Rt : Nat → D → Prop}
/-- what is wanted where an exception leaves -/
def XkC (K : PySem.W.Frag) (l : Option Addr) (W : WX) (Z : Addr → Prop) (B H : Hp) (Ξ : Nat → Ro → Addr → Str → D → Prop) : Prop :=
  ∀ C f d v dd σ' ρ' m' B2 H2, Ok K l Z m' B2 H2 σ' ρ' → Fr Z B H B2 H2 → B2 dd = some (.xd [(f, v)]) → Is K B2 v d → Ξ m' ρ' C f d → W (.ref C) (some dd) σ' H2
theorem XkC.on {Z : Addr → Prop} {B H B1 H1 : Hp} (x : XkC K l W Z B H Ξ) (f1 : Fr Z B H B1 H1) : XkC K l W Z B1 H1 Ξ :=
  fun C f d v dd σ' ρ' m' B2 H2 o2 f2 => x C f d v dd σ' ρ' m' B2 H2 o2 (f1.trans f2)
theorem Ok.clear {Z : Addr → Prop} {B H : Hp} {σ : L2.St} {i : Nat} (h : Ok K l Z m B H σ ρ) : Ok K l Z m B H (σ.set i none) (ρ.set i none) := by
  have keep : ∀ {j : Nat} {s : Sl}, (ρ.set i none)[j]? = some (some s) → i ≠ j ∧ ρ[j]? = some (some s) := fun {j s} e => by
    have hj : i ≠ j := fun z => by
      subst z
      rcases Nat.lt_or_ge i ρ.length with hi | hi
      · rw [List.getElem?_set_self hi] at e; cases e
      · rw [List.getElem?_eq_none (by rw [List.length_set]; exact hi)] at e; cases e
    exact ⟨hj, by rwa [List.getElem?_set_ne hj] at e⟩
  refine { h.toBs with len := ?_, sl := ?_, dis := ?_ }
  · rw [List.length_set, List.length_set]; exact h.len
  · intro j s e
    obtain ⟨hj, e⟩ := keep e
    rw [List.getElem?_set_ne hj]
    exact h.sl j s e
  · intro j k s t a n p1 p2 e1 e2
    obtain ⟨hj, e1⟩ := keep e1
    obtain ⟨hk, e2⟩ := keep e2
    rw [List.getElem?_set_ne hj, List.getElem?_set_ne hk]
    exact h.dis j k s t a n p1 p2 e1 e2
theorem e_isX {j : Nat} {C : Addr} {f : Str} {d : D} {c : V} {cv : Value} {b : Bool} (hj : ρ[j]? = some (some (.obj (exR K C f d)))) (hc : ClsV c cv) (T : We.ExF K C) (hk : PySem.W.kitOne K (.ref C) cv = some b) (q : Φ m (.bl b)) :
    EvC K l (tCB (rIsX K) (tCons (tVar j) (tCons (tC c) tNil))) ρ m Φ := by
  intro Z B H σ Q ok k
  obtain ⟨v, e1, a, o, rfl, q1, q2, q3, q4, ⟨dd, v, rfl, hd, iv⟩, q6⟩ := ok.sl j _ hj
  exact ⟨_, e1, a, C, dd, _, c, cv, b, rfl, q1, ok.sub _ _ hd, hc, T, hk, k _ _ m B H ok Fr.refl (.bl b) q⟩
theorem e_xfH {j : Nat} {C : Addr} {f : Str} {d : D} (hj : ρ[j]? = some (some (.obj (exR K C f d)))) (T : We.ExF K C) (hno : PySem.W.findIn K (.ref C) f = some none) (q : Φ m d) :
    EvC K l (tXfH K f (tVar j)) ρ m Φ := by
  intro Z B H σ Q ok k
  obtain ⟨v, e1, a, o, rfl, q1, q2, q3, q4, ⟨dd, v, rfl, hd, iv⟩, q6⟩ := ok.sl j _ hj
  refine ⟨_, e1, a, C, dd, _, v, rfl, q1, ok.sub _ _ hd, T, hno, ?_, k _ _ m B H ok Fr.refl iv q⟩
  rw [List.lookup_cons, beq_self_eq_true]
/-- the values of classes -/
def clsA : List V → TA
  | [] => tNil
  | c :: r => tCons (tC c) (clsA r)
theorem clsA_run {H : Hp} {σ : L2.St} {Q : List V → Hp → Prop} : ∀ {cs : List V}, Q cs H → clsA cs σ H Q
  | [], h => h
  | c :: r, h => clsA_run (cs := r) (Q := fun xs H2 => Q (c :: xs) H2) h
theorem e_isXT {j : Nat} {C : Addr} {f : Str} {d : D} {cs : List V} {us : List Value} {b : Bool} {tcs : TA} (hj : ρ[j]? = some (some (.obj (exR K C f d)))) (he : tcs = clsA cs) (hl : cs.length ≤ 100) (hc : Paired ClsV cs us) (T : We.ExF K C) (hk : PySem.W.kitAny K (.ref C) us = some b) (q : Φ m (.bl b)) :
    EvC K l (tCB (rIsXT K) (tCons (tVar j) (tCons (tTup tcs) tNil))) ρ m Φ := by
  subst he
  intro Z B H σ Q ok k
  obtain ⟨v, e1, a, o, rfl, q1, q2, q3, q4, ⟨dd, v, rfl, hd, iv⟩, q6⟩ := ok.sl j _ hj
  refine ⟨_, e1, clsA_run ⟨Nat.le_trans hl (by decide), fun p hp => ?_⟩⟩
  obtain ⟨o2, f2⟩ := ok.new (o := .tup cs) hp
  exact ⟨a, C, dd, p, _, cs, us, b, rfl, upd_same, by rw [upd_ne (ne_of_none q1 hp)]; exact q1, by rw [upd_ne (ne_of_none (ok.sub _ _ hd) hp)]; exact ok.sub _ _ hd, hc, T, hk, k _ _ m _ _ o2 f2 (.bl b) q⟩
end
end Wt

namespace We
open PySem PySem.W PySem.Calls PyProof.Rows PySem.Spec L2
end We

namespace Wt
open PySem PySem.Spec PyProof.Rows L2
section
variable {K : PySem.W.Frag} {l : Option Addr} {ρ : Ro} {m : Nat}
variable {te tl : TE} {tA : TA} {Nx : Nat → Ro → Prop} {Rt : Nat → D → Prop}
end
end Wt

namespace Wt
open PySem PySem.Spec PyProof.Rows L2
section
variable {K : PySem.W.Frag} {l : Option Addr} {ρ : Ro} {m : Nat} {Φ : Nat → D → Prop} {tA : TA}
end
end Wt

namespace Wt
open PySem PySem.Spec PyProof.Rows L2
section
variable {K : PySem.W.Frag} {l : Option Addr} {ρ : Ro} {m : Nat} {Φ : Nat → D → Prop} {tA : TA} {te : TE} {tb : TS}
variable {Nx : Nat → Ro → Prop} {Rt : Nat → D → Prop}
end
end Wt

namespace Wt
open PySem PySem.Spec PyProof.Rows L2
theorem op_notInE {X : Cx} (hu : X.A.units + 200 < cLine) : OpR X (compareOp .NotIn) (rNotInD X.K) := op_notInD (by omega)
section
variable {K : PySem.W.Frag} {l : Option Addr} {ρ : Ro} {m : Nat} {Φ : Nat → D → Prop}
end
end Wt

namespace Wt
open PySem PySem.Spec PyProof.Rows L2
section
variable {X : Cx}
end
section
variable {K : PySem.W.Frag} {l : Option Addr} {ρ : Ro} {m : Nat}
variable {Φ : Nat → D → Prop} {ta : TE}
end
end Wt

namespace Wt
open PySem PySem.Spec PyProof.Rows L2
section
variable {X : Cx} {o e : Expr} {apos cpos : Pos} {td ty : TE}
end
section
variable {K : PySem.W.Frag} {w : World} {l : Option Addr} {ρ : Ro} {m : Nat}
variable {Nx : Nat → Ro → Prop} {Rt : Nat → D → Prop} {Φ : Nat → D → Prop} {tk : TE}
end
end Wt

namespace Wt
open PySem PySem.Spec PyProof.Rows L2
section
variable {K : PySem.W.Frag} {l : Option Addr} {ρ : Ro} {m : Nat} {Φ : Nat → D → Prop} {t1 t2 : TE}
end
end Wt

namespace Wt
open PySem PySem.Spec PyProof.Rows L2
section
variable {K : PySem.W.Frag} {w : World} {l : Option Addr} {ρ : Ro} {m : Nat}
variable {Nx : Nat → Ro → Prop} {Rt : Nat → D → Prop} {Φ : Nat → D → Prop} {te : TE}
end
end Wt

namespace Wt
open PySem PySem.Spec PyProof.Rows L2
section
variable {K : PySem.W.Frag} {l : Option Addr} {ρ : Ro} {m : Nat}
variable {Nx : Nat → Ro → Prop} {Rt : Nat → D → Prop} {tl te : TE}
end
end Wt

namespace Wt
open PySem PySem.Spec PyProof.Rows L2
theorem mt_idxLD {X : Cx} (hu : X.A.units + 200 < cLine) : MtR X "list.index" (rIndexD X.K) := mt_indexD (by omega)
section
variable {K : PySem.W.Frag} {l : Option Addr} {ρ : Ro} {m : Nat}
variable {Φ : Nat → D → Prop} {tl te : TE}
theorem e_idxLD (h : EvC K l tl ρ m fun m1 x => ∃ ds, x = .lst ds ∧ Eqs (.lst ds) ∧ EvC K l te ρ m1 fun m2 d => Eqs d ∧
      ∃ (j : Nat) (z : D), ds[j]? = some z ∧ PyData.eqv z.py d.py = true ∧ (∀ c z', c < j → ds[c]? = some z' → PyData.eqv z'.py d.py = false) ∧ Φ m2 (.int (j : Nat))) :
    EvC K l (tBM K "list" (rIndexD K) tl (tCons te tNil)) ρ m Φ := by
  intro Z B H σ Q ok k
  refine h Z B H σ _ ok fun v x m1 B1 H1 o1 f1 i1 g1 => ?_
  obtain ⟨ds, rfl, hE, g1⟩ := g1
  have i1' := i1
  cases i1 with
  | @lst a us _ hu r =>
    refine ⟨.inl ⟨rfl, _, SqL.of (o1.sub _ _ hu)⟩, ?_⟩
    refine g1 Z B1 H1 σ _ o1 fun v2 d m2 B2 H2 o2 f2 i2 g2 => ?_
    obtain ⟨hd, j, z, hj, he, hno, q⟩ := g2
    have hp : (D.pys ds)[j]? = some z.py := by rw [pys_map, List.getElem?_map, hj]; rfl
    have hdp := (i1'.mono f2.sub).dp o2.sub hE.plain
    refine ⟨a, v2, d.py, D.pys ds, j, z.py, rfl, rfl, ?_, i2.dp o2.sub hd.plain, ?_, hd.shaped, hp, he, fun c z' hc hz => ?_, k _ _ m2 B2 H2 o2 (f1.trans f2) (.int _) q⟩
    · exact hdp
    · exact hE.shaped
    · rw [pys_map, List.getElem?_map, Option.map_eq_some_iff] at hz
      obtain ⟨y, hy, rfl⟩ := hz
      exact hno c y hc hy
end
end Wt

namespace Wt
open PySem PySem.Spec PyProof.Rows L2
section
variable {K : PySem.W.Frag} {l : Option Addr} {ρ : Ro} {m : Nat}
variable {Nx : Nat → Ro → Prop} {Rt : Nat → D → Prop} {te : TE} {tA : TA}
end
end Wt

namespace Wt
open PySem PySem.Spec PyProof.Rows L2
section
variable {P : Program} {w : World} {A : Around} {E : Value → Shared → Prop} {s : Shared}
end
section
variable {X : Cx}
end
section
variable {K : PySem.W.Frag} {l : Option Addr} {ρ : Ro} {m : Nat}
variable {Φ : Nat → D → Prop} {ta : TE}
end
section
variable {K : PySem.W.Frag} {l : Option Addr} {ρ : Ro} {m : Nat} {Φ : Nat → D → Prop}
end
end Wt

namespace Wt
open PySem PySem.Spec PyProof.Rows L2
section
variable {K : PySem.W.Frag}
/-- the key that data is -/
def KeyD (d : D) (k : Key) : Prop := (∃ n, d = .int n ∧ k = .inl n) ∨ ∃ x, d = .str x ∧ k = .inr x
theorem KeyD.is {B : Hp} {v : V} {d : D} {k : Key} (h : KeyD d k) (i : Is K B v d) : v = kV k := by
  rcases h with ⟨n, rfl, rfl⟩ | ⟨x, rfl, rfl⟩
  · cases i; rfl
  · cases i; rfl
end
section
variable {K : PySem.W.Frag} {l : Option Addr} {ρ : Ro} {m : Nat} {Φ : Nat → D → Prop} {td tk te : TE}
end
section
variable {K : PySem.W.Frag} {l : Option Addr} {ρ : Ro} {m : Nat} {Nx : Nat → Ro → Prop} {Rt : Nat → D → Prop} {t : TS}
/-- an object that its caller only reads from here on -/
theorem Ok.frzObj {Z : Addr → Prop} {B H : Hp} {σ : L2.St} {i : Nat} {R : ObR} {a : Addr} {o : HO} {d : D} (ok : Ok K l Z m B H σ ρ) (hi : ρ[i]? = some (some (.obj R))) (e1 : σ[i]? = some (some (.ref a)))
    (q1 : H a = some o) (q2 : B a = none) (q3 : ¬ Z a) (q4 : l ≠ some a) (hd : Is K (upd B a o) (.ref a) d) :
    Ok K l Z m (upd B a o) H σ (ρ.set i (some (.dat d))) ∧ Fr Z B H (upd B a o) H := by
  have sm : Same B (upd B a o) := same_new q2
  have hiL : i < ρ.length := (List.getElem?_eq_some_iff.mp hi).1
  refine ⟨⟨⟨fun b x e => ?_, fun b e => ⟨(ok.hand b e).1, ?_⟩, ?_⟩, ?_, ?_, ?_⟩, ⟨sm, fun _ _ => rfl⟩⟩
  · by_cases n : b = a
    · subst n; rw [upd_same] at e; cases e; exact q1
    · rw [upd_ne n] at e; exact ok.sub b x e
  · rw [upd_ne (fun (z : b = a) => q4 (z ▸ e))]
    exact (ok.hand b e).2
  · intro z hz
    obtain ⟨w1, w2, w3⟩ := ok.zs z hz
    refine ⟨w1, ?_, w3⟩
    rw [upd_ne (fun (e : z = a) => q3 (e ▸ hz))]
    exact w2
  · rw [List.length_set]
    exact ok.len
  · intro j s e
    by_cases hj : i = j
    · subst hj
      rw [List.getElem?_set_self hiL] at e
      cases e
      exact ⟨_, e1, hd⟩
    · rw [List.getElem?_set_ne hj] at e
      obtain ⟨v, e2, q⟩ := ok.sl j s e
      refine ⟨v, e2, ?_⟩
      cases s with
      | dat d => exact Is.mono sm q
      | hand => exact q
      | own fs =>
        obtain ⟨b, zs, rfl, p1, p2, p3, p4, p5⟩ := q
        refine ⟨b, zs, rfl, p1, ?_, p3, p4, p5.mono sm⟩
        rw [upd_ne (fun (z : b = a) => by
          subst z
          exact ok.dis i j _ _ b hj rfl rfl hi e e1 e2)]
        exact p2
      | obj R =>
        obtain ⟨b, zs, rfl, p1, p2, p3, p4, p5, p6⟩ := q
        refine ⟨b, zs, rfl, p1, ?_, p3, p4, p6 _ _ sm p5, p6⟩
        rw [upd_ne (fun (z : b = a) => by
          subst z
          exact ok.dis i j _ _ b hj rfl rfl hi e e1 e2)]
        exact p2
  · intro j k ds1 es b n p1 p2 e1' e2'
    have ne : ∀ (j : Nat) x, x.owns = true → (ρ.set i (some (.dat d)))[j]? = some (some x) → ρ[j]? = some (some x) := by
      intro j x px e
      by_cases hj : i = j
      · subst hj; rw [List.getElem?_set_self hiL] at e; cases e; cases px
      · rw [List.getElem?_set_ne hj] at e; exact e
    exact ok.dis j k ds1 es b n p1 p2 (ne _ _ p1 e1') (ne _ _ p2 e2')
end
structure Lk (B B' : Hp) (a : Addr) : Prop where
  ne : ∀ b, b ≠ a → B' b = B b
  at_ : ∃ es, Rd B a (.dK es) ∧ Rd B' a (.dK es)
section
variable {K : PySem.W.Frag} {B B' : Hp} {a : Addr}
theorem Lk.off (h : Lk B B' a) {b : Addr} {o : HO} (hb : B b = some o) (n1 : ∀ es, o ≠ .dK es) (n2 : ∀ x es, o ≠ .frz x (.dK es)) : B' b = some o := by
  rw [h.ne b fun z => ?_]
  · exact hb
  · subst z
    obtain ⟨es, h1 | ⟨x, h1⟩, _⟩ := h.at_
    · rw [h1] at hb; exact n1 es (Option.some.inj hb).symm
    · rw [h1] at hb; exact n2 x es (Option.some.inj hb).symm
theorem Lk.rd (h : Lk B B' a) {b : Addr} {es : List (Key × V)} (hb : Rd B b (.dK es)) : Rd B' b (.dK es) := by
  by_cases e : b = a
  · subst e
    obtain ⟨es', h1, h2⟩ := h.at_
    have : es' = es := by
      rcases h1 with h1 | ⟨x, h1⟩ <;> rcases hb with hb | ⟨y, hb⟩ <;> rw [h1] at hb <;> cases hb <;> rfl
    rw [← this]; exact h2
  · rcases hb with hb | ⟨y, hb⟩
    · exact .inl (by rw [h.ne b e]; exact hb)
    · exact .inr ⟨y, by rw [h.ne b e]; exact hb⟩
theorem Lk.sqT (h : Lk B B' a) {b : Addr} {xs : List V} (hb : SqT K B b xs) : SqT K B' b xs := by
  rcases hb with (hb | ⟨o, hb⟩) | hb
  · exact .inl (.inl (h.off hb (fun _ => nofun) fun _ _ => nofun))
  · exact .inl (.inr ⟨o, h.off hb (fun _ => nofun) fun _ _ => nofun⟩)
  · exact .inr hb
mutual
theorem Is.swap (h : Lk B B' a) : ∀ {v : V} {d : D}, Is K B v d → Is K B' v d
  | _, _, .non => .non
  | _, _, .bl b => .bl b
  | _, _, .int i => .int i
  | _, _, .str x => .str x
  | _, _, .lst e r => .lst (h.off e (fun _ => nofun) fun _ _ => nofun) (IsAll.swap h r)
  | _, _, .tup e r c => .tup (h.sqT e) (IsAll.swap h r) (by
      obtain ⟨o, xs, e, d⟩ := c
      exact ⟨o, xs, h.off e (fun _ => nofun) (fun _ _ => nofun), d⟩)
  | _, _, .dic e => .dic (h.rd e)
  | _, _, .ins e r => .ins (h.off e (fun _ => nofun) fun _ _ => nofun) (IsAll.swap h r)
  | _, _, .scr e => .scr (by
      rcases e with ⟨o, e⟩ | e
      · exact .inl ⟨o, h.off e (fun _ => nofun) fun _ _ => nofun⟩
      · exact .inr e)
  | _, _, .dct e n r => .dct (h.rd e) n (IsAll.swap h r)
theorem IsAll.swap (h : Lk B B' a) : ∀ {vs : List V} {ds : List D}, IsAll K B vs ds → IsAll K B' vs ds
  | _, _, .nil => .nil
  | _, _, .cons e r => .cons (Is.swap h e) (IsAll.swap h r)
end
/-- what an object's slot says stays while a dict is locked -/
def LkR (R : ObR) : Prop := ∀ B B' a b o, Lk B B' a → R B b o → R B' b o
def LkRo (ρ : Ro) : Prop := ∀ (i : Nat) R, ρ[i]? = some (some (.obj R)) → LkR R
theorem paired_swap (h : Lk B B' a) : ∀ {es : List (Key × V)} {kvs : List (Int × D)}, Paired (DkR K B) es kvs → Paired (DkR K B') es kvs
  | _, _, .nil => .nil
  | _, _, .cons e r => .cons ⟨e.1, e.2.swap h⟩ (paired_swap h r)
theorem DctR.lk {kvs : List (Int × D)} : LkR (DctR K kvs) := fun B B' a b o h ⟨es, e, p⟩ => ⟨es, e, paired_swap h p⟩
theorem Ok.swap {l : Option Addr} {Z : Addr → Prop} {m : Nat} {H H' : Hp} {σ : L2.St} {ρ : Ro} (ok : Ok K l Z m B H σ ρ) (h : Lk B B' a) (hn : ∀ b, b ≠ a → H' b = H b) (ha : H' a = B' a) (lr : LkRo ρ) :
    Ok K l Z m B' H' σ ρ := by
  have hB : B a ≠ none := by
    obtain ⟨es, h1 | ⟨x, h1⟩, _⟩ := h.at_ <;> rw [h1] <;> exact nofun
  have nn : ∀ b, B b = none → b ≠ a := fun b e z => hB (z ▸ e)
  refine ⟨⟨fun b o e => ?_, fun b e => ?_, fun z hz => ?_⟩, ok.len, fun i s e => ?_, ok.dis⟩
  · by_cases q : b = a
    · subst q; rw [ha]; exact e
    · rw [hn b q]; rw [h.ne b q] at e; exact ok.sub b o e
  · obtain ⟨⟨g, s, c, q1, q2⟩, q3⟩ := ok.hand b e
    have := nn b q3
    exact ⟨⟨g, s, c, by rw [hn b this]; exact q1, q2⟩, by rw [h.ne b this]; exact q3⟩
  · obtain ⟨w1, w2, w3⟩ := ok.zs z hz
    have := nn z w2
    exact ⟨by rw [hn z this]; exact w1, by rw [h.ne z this]; exact w2, w3⟩
  · obtain ⟨v, e2, q⟩ := ok.sl i s e
    refine ⟨v, e2, ?_⟩
    cases s with
    | dat d => exact Is.swap h q
    | hand => exact q
    | own fs =>
      obtain ⟨b, zs, rfl, p1, p2, p3, p4, p5⟩ := q
      have := nn b p2
      exact ⟨b, zs, rfl, by rw [hn b this]; exact p1, by rw [h.ne b this]; exact p2, p3, p4, p5.swap h⟩
    | obj R =>
      obtain ⟨b, zs, rfl, p1, p2, p3, p4, p5, p6⟩ := q
      have := nn b p2
      exact ⟨b, zs, rfl, by rw [hn b this]; exact p1, by rw [h.ne b this]; exact p2, p3, p4, lr i R e _ _ _ _ _ h p5, p6⟩
end
section
variable {K : PySem.W.Frag} {l : Option Addr} {ρ : Ro} {m : Nat} {Nx : Nat → Ro → Prop} {Rt : Nat → D → Prop} {Φ : Nat → D → Prop} {tb : TS} {tt : TT} {te : TE}
end
end Wt

namespace Wt
open PySem PySem.Spec PyProof.Rows L2
/-- an entry: the key, where it stands, its value -/
abbrev EntV := NestedKey × Addr × Value
def RawC (w : World) (h : Heap) (a : Addr) (L : List EntV) : Prop :=
  (a == sysModules) = false ∧ ∃ es ep, h.DictRaw a es ep ∧ es.toList = L.map fun e => (⟨NestedKey.hash w e.1, .ref e.2.1, e.2.2⟩ : DictEntry)
def DcO (w : World) (a : Addr) (L : List EntV) : HO := .ext fun h => RawC w h a L
section
variable {P : Program} {w : World}
end
structure CnE (K : PySem.W.Frag) (B : Hp) (e : EntV) (q : List D × Int) : Prop where
  key : e.1 = (D.tup q.1).nk
  kd : D.keyeds q.1 = true
  dp : (D.tup q.1).nk.depth ≤ 8
  ki : Is K B (.ref e.2.1) (.tup q.1)
  vi : ∃ t, e.2.2 = .int q.2 t
section
variable {K : PySem.W.Frag} {B : Hp}
theorem CnE.mono {B2 : Hp} {e : EntV} {q : List D × Int} (h : CnE K B e q) (s : Same B B2) : CnE K B2 e q := ⟨h.key, h.kd, h.dp, h.ki.mono s, h.vi⟩
def CnR (w : World) (K : PySem.W.Frag) (kvs : List (List D × Int)) : ObR := fun B a o => ∃ L, o = DcO w a L ∧ Paired (CnE K B) L kvs
theorem CnR.mono {w : World} {kvs : List (List D × Int)} : (CnR w K kvs).Mono := fun B1 B2 a o s ⟨L, e, p⟩ => ⟨L, e, L2.Paired.mapP p fun x y z => z.mono s⟩
theorem CnR.lk {w : World} {kvs : List (List D × Int)} : LkR (CnR w K kvs) := fun B B' a b o h ⟨L, e, p⟩ => ⟨L, e, L2.Paired.mapP p fun x y z => ⟨z.key, z.kd, z.dp, z.ki.swap h, z.vi⟩⟩
end
section
variable {X : Cx} {o e f i value : Expr} {apos cpos pos pos' : Pos} {td ty tx tv : TE}
end
section
variable {K : PySem.W.Frag} {w : World} {l : Option Addr} {ρ : Ro} {m : Nat}
variable {Nx : Nat → Ro → Prop} {Rt : Nat → D → Prop} {Φ : Nat → D → Prop} {tk tx tv : TE}
end
end Wt

namespace Wt
open PySem PySem.Spec PyProof.Rows L2
section
variable {K : PySem.W.Frag} {w : World} {l : Option Addr} {ρ : Ro} {m : Nat}
variable {Nx : Nat → Ro → Prop} {Rt : Nat → D → Prop} {te : TE}
end
end Wt

open PySem PySem.Spec PyProof.Rows L2 Wt
namespace Wt
section
variable {K : PySem.W.Frag} {l : Option Addr} {ρ : Ro} {m : Nat} {te : TE} {Nx : Nat → Ro → Prop} {Rt : Nat → D → Prop}
end
end Wt

namespace Wt
open PySem PySem.Spec PyProof.Rows L2
section
variable {K : PySem.W.Frag} {W0 : WX} {l : Option Addr} {ρ : Ro} {m : Nat}
variable {Nx : Nat → Ro → Prop} {Rt : Nat → D → Prop} {Φ : Nat → D → Prop} {te : TE} {tt : TT}
end
end Wt

namespace Wt
open PySem PySem.Spec PyProof.Rows L2
section
variable {K : PySem.W.Frag} {l : Option Addr} {ρ : Ro} {m : Nat}
variable {Nx : Nat → Ro → Prop} {Rt : Nat → D → Prop} {te : TE} {tA : TA}
theorem s_parOwnLT {i j : Nat} (h : AvC K l tA ρ m fun m1 ds => ds.length ≤ 100000 ∧ EvC K l te ρ m1 fun m2 y => Nx m2 ((ρ.set i (some (.own ds))).set j (some (.dat y)))) :
    SvC K l (tPar i j (tCons (tLst tA) (tCons te tNil))) ρ m Nx Rt := by
  intro Z B H σ W ok kk _
  refine h Z B H σ _ ok fun vs ds m1 B1 H1 o1 f1 i1 g1 => ?_
  obtain ⟨hl, g1⟩ := g1
  refine ⟨by rw [i1.length, sizeLine_eq]; omega, fun p hp => ?_⟩
  have hz : ¬ Z p := fun z => (o1.zs p z).1 hp
  have oA := o1.aside (o := .lst vs) hp
  refine g1 _ B1 _ σ _ oA fun v y m2 B2 H2 o2 f2 i2 g2 => ?_
  have hp2 : H2 p = some (.lst vs) := by rw [f2.kept p (.inr rfl), upd_same]
  have o3 := (o2.setOwn (i := i) hz hp2 (i1.mono f2.sub)).set (i := j) i2
  refine ⟨_, _, rfl, kk _ _ m2 B2 _ o3 (f1.trans ⟨f2.sub, fun z hz' => ?_⟩) g2⟩
  have hzp : z ≠ p := fun e => hz (e ▸ hz')
  exact (f2.kept z (.inl hz')).trans (upd_ne hzp)
end
end Wt

namespace Wt
open PySem PySem.Spec PyProof.Rows L2
section
variable {K : PySem.W.Frag} {l : Option Addr} {ρ : Ro} {m : Nat}
variable {Nx : Nat → Ro → Prop} {Rt : Nat → D → Prop} {te t1 t2 : TE} {tA : TA} {Φ : Nat → D → Prop} {Θ : Nat → Bool → Prop}
end
end Wt

namespace Wt
open PySem PySem.Spec PyProof.Rows L2
def LsR (bs : List Addr) : ObR := fun _ _ o => o = .lst (bs.map V.ref)
theorem LsR.mono {bs : List Addr} : (LsR bs).Mono := fun _ _ _ _ _ h => h
abbrev Zb (Z : Addr → Prop) (bs : List Addr) : Addr → Prop := fun z => Z z ∨ z ∈ bs
structure RowsE (K : PySem.W.Frag) (B H : Hp) (bs : List Addr) (rows : List (List D)) : Prop where
  len : bs.length = rows.length
  at_ : ∀ (c : Nat) b ds, bs[c]? = some b → rows[c]? = some ds → ∃ vs, H b = some (.lst vs) ∧ IsAll K B vs ds
theorem RowsE.more {K : PySem.W.Frag} {B H B2 H2 : Hp} {bs : List Addr} {rows : List (List D)} (h : RowsE K B H bs rows) (s : Same B B2) (k : ∀ z ∈ bs, H2 z = H z) : RowsE K B2 H2 bs rows :=
  ⟨h.len, fun c b ds e1 e2 => by
    obtain ⟨vs, e3, i⟩ := h.at_ c b ds e1 e2
    exact ⟨vs, by rw [k b (List.mem_of_getElem? e1)]; exact e3, i.mono s⟩⟩
/-- a run beside such a list, which slot i holds -/
def SvM (K : PySem.W.Frag) (l : Option Addr) (i : Nat) (bs : List Addr) (ts : TS) (ρ : Ro) (m : Nat) (rows : List (List D)) (Nx : Nat → Ro → List (List D) → Prop) : Prop :=
  ∀ (Z : Addr → Prop) (B H : Hp) (σ : L2.St) (W : Ends), Ok K l (Zb Z bs) m B H σ (ρ.set i (some (.obj (LsR bs)))) →
    (∀ b ∈ bs, ¬ Z b) → bs.Nodup → RowsE K B H bs rows →
    (∀ σ' ρ' m' B2 H2 rows', Ok K l (Zb Z bs) m' B2 H2 σ' (ρ'.set i (some (.obj (LsR bs)))) →
      RowsE K B2 H2 bs rows' → Fr Z B H B2 H2 → Nx m' ρ' rows' → W.nx σ' H2) → ts W σ H
section
variable {K : PySem.W.Frag} {l : Option Addr} {i : Nat} {bs : List Addr} {ts tu tb : TS} {ρ : Ro} {m : Nat} {rows : List (List D)} {Nx Nx' : Nat → Ro → List (List D) → Prop}
variable {tl te tk t1 t2 : TE} {tA : TA}
theorem m_lift (h : SvC K l ts (ρ.set i (some (.obj (LsR bs)))) m (fun m' ρ2 => ∃ ρ', ρ2 = ρ'.set i (some (.obj (LsR bs))) ∧ Nx m' ρ' rows) (fun _ _ => False)) :
    SvM K l i bs ts ρ m rows Nx := by
  intro Z B H σ W ok nz nd pr k
  refine h (Zb Z bs) B H σ W ok (fun σ' ρ2 m' B2 H2 o2 f2 g2 => ?_) fun v d m' B2 H2 o2 f2 i2 g2 => g2.elim
  obtain ⟨ρ', rfl, q⟩ := g2
  exact k σ' ρ' m' B2 H2 rows o2 (pr.more f2.sub fun z hz => f2.kept z (.inr hz)) (f2.weak fun z hz => .inl hz) q
theorem m_seq (h : SvM K l i bs ts ρ m rows fun m1 ρ1 rows1 => SvM K l i bs tu ρ1 m1 rows1 Nx) : SvM K l i bs (tSeq ts tu) ρ m rows Nx := by
  intro Z B H σ W ok nz nd pr k
  refine h Z B H σ _ ok nz nd pr fun σ1 ρ1 m1 B1 H1 rows1 o1 pr1 f1 g1 => ?_
  exact g1 Z B1 H1 σ1 W o1 nz nd pr1 fun σ2 ρ2 m2 B2 H2 rows2 o2 pr2 f2 g2 => k σ2 ρ2 m2 B2 H2 rows2 o2 pr2 (f1.trans f2) g2
/-- for j in a tuple -/
theorem m_forT {j : Nat} (hij : i ≠ j) (h : EvC K l tl (ρ.set i (some (.obj (LsR bs)))) m fun m1 x => ∃ ds, x = .tup ds ∧
      ∃ I : Nat → Nat → Ro → List (List D) → Prop, I 0 m1 ρ rows ∧
      (∀ (a n : Nat) ρ' rows' d, ds[a]? = some d → I a n ρ' rows' → SvM K l i bs tb (ρ'.set j (some (.dat d))) n rows' (I (a + 1))) ∧
      ∀ n ρ' rows', I ds.length n ρ' rows' → Nx n ρ' rows') : SvM K l i bs (tFor (iTup K tl) (gName j) tb) ρ m rows Nx := by
  intro Z B H σ W ok nz nd pr k
  refine h (Zb Z bs) B H σ _ ok fun v x m1 B1 H1 o1 f1 i1 g1 => ?_
  obtain ⟨ds, rfl, I, h0, hs, hd⟩ := g1
  have pr1 := pr.more f1.sub (fun z hz => f1.kept z (.inr hz))
  have f1' : Fr Z B H B1 H1 := f1.weak fun z hz => .inl hz
  cases i1 with
  | @tup a xs ds hT is =>
    refine ⟨a, rfl, ⟨xs, sameT o1.sub hT⟩, ?_⟩
    refine for_tup (xs := xs) (fun c σ' H' => ∃ n ρ' B' rows',
      Ok K l (Zb Z bs) n B' H' σ' (ρ'.set i (some (.obj (LsR bs)))) ∧ RowsE K B' H' bs rows' ∧ Fr Z B1 H1 B' H' ∧ I c n ρ' rows')
      ⟨m1, ρ, B1, rows, o1, pr1, Fr.refl, h0⟩ (fun c σ' H' _ q => ?_) (fun c x σ' H' e q => ?_) fun σ' H' q => ?_
    · obtain ⟨n, ρ', B', rows', ok', _, fr', _⟩ := q
      exact sameT ok'.sub (sameT fr'.sub hT)
    · obtain ⟨n, ρ', B', rows', ok', pr', fr', hI⟩ := q
      obtain ⟨d, e2, q⟩ := (is.mono fr'.sub).get e
      have ok2 : Ok K l (Zb Z bs) n B' H' (σ'.set j (some x)) ((ρ'.set j (some (.dat d))).set i (some (.obj (LsR bs)))) := by
        rw [List.set_comm _ _ (Ne.symm hij)]
        exact ok'.set q
      exact hs c n ρ' rows' d e2 hI Z B' H' _ _ ok2 nz nd pr' fun σ2 ρ2 m2 B2 H2 rows2 o2 pr2 f2 g2 => ⟨m2, ρ2, B2, rows2, o2, pr2, fr'.trans f2, g2⟩
    · obtain ⟨n, ρ', B', rows', ok', pr', fr', hI⟩ := q
      rw [is.length] at hI
      exact k σ' ρ' n B' H' rows' ok' pr' (f1'.trans fr') (hd n ρ' rows' hI)
/-- x[a][b] = v -/
theorem m_set2 (hil : i < ρ.length) (h : EvC K l te (ρ.set i (some (.obj (LsR bs)))) m fun m1 d => EvC K l t1 (ρ.set i (some (.obj (LsR bs)))) m1 fun m2 x => ∃ c : Nat, x = .int (c : Int) ∧ ∃ ds, rows[c]? = some ds ∧
      EvC K l t2 (ρ.set i (some (.obj (LsR bs)))) m2 fun m3 y => ∃ k : Nat, y = .int (k : Int) ∧ k < ds.length ∧ Nx m3 ρ (rows.set c (ds.set k d))) :
    SvM K l i bs (tAsg te (gSub (tOp (rIxL K) (tVar i) t1) t2 rSetL)) ρ m rows Nx := by
  intro Z B H σ W ok nz nd pr k
  refine h (Zb Z bs) B H σ _ ok fun v1 d1 m1 B1 H1 o1 f1 i1 g1 => ?_
  obtain ⟨v, e1, a, o, rfl, q1, q2, q3, q4, ho, q6⟩ := o1.sl i _ (List.getElem?_set_self hil)
  refine ⟨_, e1, ?_⟩
  refine g1 (Zb Z bs) B1 H1 σ _ o1 fun v2 d2 m2 B2 H2 o2 f2 i2 g2 => ?_
  obtain ⟨c, rfl, ds, hds, g2⟩ := g2
  cases i2
  obtain ⟨v', e1', a', o', hv, w1, w2, w3, w4, ho', w6⟩ := o2.sl i _ (List.getElem?_set_self hil)
  subst hv
  rw [e1] at e1'
  cases e1'
  cases ho'
  have pr2 := (pr.more f1.sub (fun z hz => f1.kept z (.inr hz))).more f2.sub (fun z hz => f2.kept z (.inr hz))
  obtain ⟨b, hb⟩ : ∃ b, bs[c]? = some b := ⟨_, List.getElem?_eq_getElem (by rw [pr2.len]; exact (List.getElem?_eq_some_iff.mp hds).1)⟩
  have zb : Zb Z bs b := .inr (List.mem_of_getElem? hb)
  refine ⟨a, bs.map V.ref, (c : Int), .ref b, rfl, rfl, SqL.of w1, atI_get (by omega) (by rw [Int.toNat_natCast, List.getElem?_map, hb]; rfl), ?_⟩
  refine g2 (Zb Z bs) B2 H2 σ _ o2 fun v3 d3 m3 B3 H3 o3 f3 i3 g3 => ?_
  obtain ⟨j, rfl, hj, q⟩ := g3
  cases i3
  have pr3 := pr2.more f3.sub (fun z hz => f3.kept z (.inr hz))
  obtain ⟨vs, ev, iv⟩ := pr3.at_ c b ds hb hds
  refine ⟨b, vs, (j : Int), j, rfl, rfl, ev, ixN_nat (by rw [iv.length]; exact hj), ?_⟩
  have o4 := o3.write (o := .lst (vs.set j v1)) zb
  refine k σ ρ m3 B3 _ _ o4 ⟨by rw [List.length_set]; exact pr3.len, fun c2 b2 ds2 h1 h2 => ?_⟩ ?_ q
  · by_cases e : c2 = c
    · subst e
      rw [hb] at h1
      cases h1
      rw [List.getElem?_set_self (List.getElem?_eq_some_iff.mp hds).1] at h2
      cases h2
      exact ⟨_, upd_same, iv.setAt (i1.mono (f2.sub.trans f3.sub)) j⟩
    · rw [List.getElem?_set_ne (Ne.symm e)] at h2
      obtain ⟨vs2, e3, i4⟩ := pr3.at_ c2 b2 ds2 h1 h2
      refine ⟨vs2, ?_, i4⟩
      rw [upd_ne (fun z => ?_)]
      · exact e3
      · subst z
        have hb0 := hb
        rw [← h1] at hb0
        exact e ((List.getElem?_inj (List.getElem?_eq_some_iff.mp h1).1 nd).mp hb0.symm)
  · have ft : Fr Z B H B3 H3 := ((f1.trans f2).trans f3).weak fun z hz => .inl hz
    refine ⟨ft.sub, fun z hz => ?_⟩
    have hne : z ≠ b := fun e => nz b (List.mem_of_getElem? hb) (by rw [← e]; exact hz)
    rw [upd_ne hne]
    exact ft.kept z hz
/-- the items are data from here on -/
theorem thaw_rows {σ : L2.St} {H : Hp} {Z : Addr → Prop} : ∀ {bs : List Addr} {rows : List (List D)} {B : Hp}, Ok K l (Zb Z bs) m B H σ ρ → (∀ b ∈ bs, ¬ Z b) → bs.Nodup → RowsE K B H bs rows →
    ∃ B2, Ok K l Z m B2 H σ ρ ∧ Same B B2 ∧ IsAll K B2 (bs.map V.ref) (rows.map D.lst) ∧ ∀ a, B a = none → a ∉ bs → B2 a = none
  | [], rows, B, ok, _, _, pr => by
    have : rows = [] := List.eq_nil_of_length_eq_zero pr.len.symm
    subst this
    exact ⟨B, ok.less fun z hz => .inl hz, Same.refl B, .nil, fun a h _ => h⟩
  | b :: bs, [], B, ok, _, _, pr => by have := pr.len; simp at this
  | b :: bs, ds :: rows, B, ok, nz, nd, pr => by
    rw [List.nodup_cons] at nd
    obtain ⟨vs, ev, iv⟩ := pr.at_ 0 b ds rfl rfl
    have ok1 : Ok K l (fun z => Zb Z bs z ∨ z = b) m B H σ ρ := ok.less fun z hz => by
      rcases hz with (hz | hz) | hz
      · exact .inl hz
      · exact .inr (List.mem_cons_of_mem _ hz)
      · exact .inr (by rw [hz]; exact List.mem_cons_self)
    have nb : ¬ Zb Z bs b := fun h => h.elim (nz b List.mem_cons_self) nd.1
    have z2 := (ok1.zs b (.inr rfl)).2.1
    have ok2 := ok1.thaw ev nb
    have sm : Same B (upd B b (.lst vs)) := same_new z2
    have pr2 : RowsE K (upd B b (.lst vs)) H bs rows := ⟨by have := pr.len; simpa using this, fun c b2 ds2 h1 h2 => by
      obtain ⟨vs2, e3, i3⟩ := pr.at_ (c + 1) b2 ds2 h1 h2
      exact ⟨vs2, e3, i3.mono sm⟩⟩
    obtain ⟨B2, o3, s3, is3, hn⟩ := thaw_rows ok2 (fun b hb => nz b (List.mem_cons_of_mem _ hb)) nd.2 pr2
    refine ⟨B2, o3, sm.trans s3, .cons (.lst (s3 _ _ upd_same) (iv.mono (sm.trans s3))) is3, fun a h1 h2 => ?_⟩
    rw [List.mem_cons, not_or] at h2
    exact hn a (by rw [upd_ne h2.1]; exact h1) h2.2
variable {Ny : Nat → Ro → Prop} {Rt : Nat → D → Prop} {rest : TS}
/-- x = [list(line) for line in t]; a run that writes items of items; the rest reads -/
theorem s_mkM {j : Nat} (hj : ρ[j]? = some none) (h : EvC K l tl ρ m fun m1 x => ∃ rows : List (List D), x = .tup (rows.map D.tup) ∧ rows.length ≤ 50000 ∧
      ∀ bs, SvM K l i bs ts ρ m1 rows fun m2 ρ2 rows2 => i < ρ2.length ∧ SvC K l rest (ρ2.set i (some (.dat (.lst (rows2.map D.lst))))) m2 Ny Rt) :
    SvC K l (tSeq (tAsg (tLc (iTup K tl) (gName j) tYes (tCB (rListQ K) (tCons (tVar j) tNil)) [j]) (gName i)) (tSeq ts rest)) ρ m Ny Rt := by
  intro Z B H σ W ok k kr
  refine h Z B H σ _ ok fun v x m1 B1 H1 o1 f1 i1 g1 => ?_
  obtain ⟨rows, rfl, hl, hM⟩ := g1
  cases i1 with
  | @tup a xs ds hT is =>
    have hlx : xs.length = rows.length := by rw [is.length, List.length_map]
    have hjl : j < σ.length := by rw [ok.len]; exact (List.getElem?_eq_some_iff.mp hj).1
    refine ⟨a, rfl, ⟨xs, sameT o1.sub hT⟩, fun A hA => ?_⟩
    have hz : ¬ Z A := fun z => (o1.zs A z).1 hA
    refine lc_tup (xs := xs) (fun c H' => ∃ bs B', bs.length = c ∧ bs.Nodup ∧ (∀ b ∈ bs, ¬ (Z b ∨ b = A)) ∧ Ok K l (Zb (fun z => Z z ∨ z = A) bs) m1 B' H' σ ρ ∧ Fr Z B1 H1 B' H' ∧
        H' A = some (.lst (bs.map V.ref)) ∧ RowsE K B' H' bs (rows.take c)) ⟨[], B1, rfl, .nil, (fun b hb => absurd hb List.not_mem_nil), ((o1.aside (o := .lst []) hA).less (fun z (hz : (Z z ∨ z = A) ∨ z ∈ []) => hz.elim id fun q => absurd q List.not_mem_nil)), ⟨Same.refl B1, (fun z hz' => upd_ne fun e => hz (e ▸ hz'))⟩, upd_same, ⟨rfl, (fun c b ds e => by simp at e)⟩⟩
      (fun c H' _ w => ?_) (fun c x H' e w => ?_) fun H' w => ?_
    · obtain ⟨bs, B', _, _, _, ok', fr', _⟩ := w
      exact sameT ok'.sub (sameT fr'.sub hT)
    · obtain ⟨bs, B', hbl, nd, nz, ok', fr', hA', pr'⟩ := w
      have hc : c < xs.length := (List.getElem?_eq_some_iff.mp e).1
      obtain ⟨d, e2, q⟩ := (is.mono fr'.sub).get e
      rw [List.getElem?_map, Option.map_eq_some_iff] at e2
      obtain ⟨ds, e3, rfl⟩ := e2
      have e1 : (wipe σ [j]).set j (some x) = σ.set j (some x) := by
        show (σ.set j none).set j (some x) = _
        rw [List.set_set]
      unfold gName tYes
      dsimp only
      rw [e1, if_pos rfl]
      refine ⟨?_, ?_⟩
      · show (σ.set j (some x)).set j none = σ.set j none
        rw [List.set_set]
      · cases q with
        | @tup a2 us _ hu iu =>
          refine ⟨_, List.getElem?_set_self hjl, a2, us, rfl, .inr (sameT ok'.sub hu), fun p hp => ?_⟩
          have np : ∀ z, Zb (fun z => Z z ∨ z = A) bs z → z ≠ p := fun z hz e => (ok'.zs z hz).1 (e ▸ hp)
          have nA : A ≠ p := np A (.inl (.inr rfl))
          refine ⟨bs.map V.ref, by rw [upd_ne nA]; exact hA', by rw [List.length_map, sizeLine_eq]; omega, bs ++ [p], B', by rw [List.length_append, hbl]; rfl, ?_, fun b hb => ?_, ?_, ?_, ?_, ?_⟩
          · rw [List.nodup_append]
            refine ⟨nd, List.nodup_cons.mpr ⟨List.not_mem_nil, .nil⟩, fun x hx y hy e => ?_⟩
            rw [List.mem_singleton.mp hy] at e
            exact np x (.inr hx) e
          · rcases List.mem_append.mp hb with hb | hb
            · exact nz b hb
            · rw [List.mem_singleton.mp hb]
              exact fun z => np p (.inl z) rfl
          · refine ((ok'.aside (o := .lst us) hp).write (p := A) (.inl (.inl (.inr rfl)))).less fun z hz => ?_
            rcases hz with hz | hz
            · exact .inl (.inl hz)
            · rcases List.mem_append.mp hz with hz | hz
              · exact .inl (.inr hz)
              · exact .inr (List.mem_singleton.mp hz)
          · refine ⟨fr'.sub, fun z hz' => ?_⟩
            have hne : z ≠ A := fun e => hz (by rw [← e]; exact hz')
            rw [upd_ne hne, upd_ne (np z (.inl (.inl hz')))]
            exact fr'.kept z hz'
          · rw [upd_same, List.map_append]
            rfl
          · have hct : (rows.take c).length = c := by rw [List.length_take]; omega
            have ert : rows.take (c + 1) = rows.take c ++ [ds] := by rw [List.take_add_one, e3]; rfl
            rw [ert]
            refine ⟨by rw [List.length_append, List.length_append, hbl, hct]; rfl, fun c2 b2 ds2 h1 h2 => ?_⟩
            rcases Nat.lt_or_ge c2 c with z | z
            · rw [List.getElem?_append_left (by omega)] at h1 h2
              obtain ⟨vs2, e4, i4⟩ := pr'.at_ c2 b2 ds2 h1 h2
              have hm := List.mem_of_getElem? h1
              exact ⟨vs2, by rw [upd_ne (fun e => nz b2 hm (.inr e)), upd_ne (np b2 (.inr hm))]; exact e4, i4⟩
            · rw [List.getElem?_append_right (by omega)] at h1 h2
              rw [hbl] at h1
              rw [hct] at h2
              have e5 : c2 - c = 0 := by
                have := (List.getElem?_eq_some_iff.mp h1).1
                simp at this
                omega
              rw [e5] at h1 h2
              cases h1
              cases h2
              exact ⟨us, by rw [upd_ne (Ne.symm nA), upd_same], iu⟩
    · obtain ⟨bs, B', hbl, nd, nz, ok', fr', hA', pr'⟩ := w
      rw [List.take_of_length_le (by omega)] at pr'
      have ok2 : Ok K l (fun z => Zb Z bs z ∨ z = A) m1 B' H' σ ρ := ok'.less fun z hz => by
        rcases hz with (hz | hz) | hz
        · exact .inl (.inl hz)
        · exact .inr hz
        · exact .inl (.inr hz)
      have nzA : ¬ Zb Z bs A := fun h => h.elim hz fun h => nz A h (.inr rfl)
      have ok3 := ok2.setObj (i := i) nzA hA' (R := LsR bs) rfl LsR.mono
      refine hM bs Z B' H' _ _ ok3 (fun b hb z => nz b hb (.inl z)) nd pr' fun σ2 ρ2 m2 B2 H2 rows2 o2 pr2 f2 g2 => ?_
      obtain ⟨hil, g2⟩ := g2
      obtain ⟨B3, o3, s3, is3, hn⟩ := thaw_rows o2 (fun b hb z => nz b hb (.inl z)) nd pr2
      obtain ⟨v, e1, a2, o, rfl, q1, q2, q3, q4, ho, q6⟩ := o3.sl i _ (List.getElem?_set_self hil)
      cases ho
      obtain ⟨o4, f4⟩ := o3.frzObj (List.getElem?_set_self hil) e1 q1 q2 q3 q4 (d := .lst (rows2.map D.lst)) (.lst upd_same (is3.mono (same_new q2)))
      rw [List.set_set] at o4
      have ft : Fr Z B H _ H2 := ((f1.trans fr').trans f2).trans ⟨s3.trans f4.sub, fun _ _ => rfl⟩
      exact g2 Z _ H2 σ2 W o4 (fun σ5 ρ5 m5 B5 H5 o5 f5 g5 => k σ5 ρ5 m5 B5 H5 o5 (ft.trans f5) g5)
        fun v d m5 B5 H5 o5 f5 i5 g5 => kr v d m5 B5 H5 o5 (ft.trans f5) i5 g5
end
end Wt

namespace Wt
open PySem PySem.Spec PyProof.Rows L2
section
variable {K : PySem.W.Frag} {l : Option Addr} {ρ : Ro} {m : Nat}
variable {Nx : Nat → Ro → Prop} {Rt : Nat → D → Prop} {Φ : Nat → D → Prop} {ta te t1 t2 : TE} {tt : TT} {tA : TA} {tb : TS}
/-- a, b = two new lists that grow -/
theorem s_parFF {i j : Nat} (hij : i ≠ j) {Ψ1 : Nat → List D → Prop} (h1 : EvF K l t1 ρ m Ψ1) (h2 : ∀ m1 es, Ψ1 m1 es → EvF K l t2 ρ m1 fun m2 fs => Nx m2 ((ρ.set i (some (.own es))).set j (some (.own fs)))) :
    SvC K l (tPar i j (tCons t1 (tCons t2 tNil))) ρ m Nx Rt := by
  intro Z B H σ W ok kk _
  refine h1 Z B H σ _ ok fun p xs es m1 B1 H1 o1 f1 hz hp is q1 => ?_
  refine h2 m1 es q1 _ B1 H1 σ _ o1 fun p2 xs2 fs m2 B2 H2 o2 f2 hz2 hp2 is2 q2 => ?_
  have o3 := o2.setOwn (i := j) hz2 hp2 is2
  have hp3 : H2 p = some (.lst xs) := (f2.kept p (.inr rfl)).trans hp
  have o4 := o3.setOwn (i := i) hz hp3 (is.mono f2.sub)
  rw [List.set_comm _ _ hij.symm, List.set_comm _ _ hij.symm (l := ρ)] at o4
  exact ⟨_, _, rfl, kk _ _ m2 B2 _ o4 (f1.trans ⟨f2.sub, fun z hz' => f2.kept z (.inl hz')⟩) q2⟩
/-- for i, a in enumerate(xs) -/
theorem s_forEL {i j : Nat}
    (h : AvC K l tA ρ m fun m1 as => ∃ ys, as = [.lst ys] ∧
      ∃ I : Nat → Nat → Ro → Prop, I 0 m1 ρ ∧
      (∀ (c n : Nat) ρ' e, ys[c]? = some e → I c n ρ' →
        SvC K l tb ((ρ'.set i (some (.dat (.int c)))).set j (some (.dat e))) n
          (fun n2 ρ2 => I (c + 1) n2 ρ2) Rt) ∧
      ∀ n ρ', I ys.length n ρ' → Nx n ρ') :
    SvC K l (tFor (iEnL K tA) (g2 K i j) tb) ρ m Nx Rt := by
  intro Z B H σ W ok k jr
  refine h Z B H σ _ ok fun vs as m1 B1 H1 o1 f1 i1 g1 => ?_
  obtain ⟨ys, rfl, I, h0, hs, hd⟩ := g1
  obtain ⟨v, rfl, z1⟩ := isAll1 i1
  cases z1 with
  | @lst a us _ hu r1 =>
    refine ⟨a, us, rfl, SqL.of (o1.sub _ _ hu), ?_⟩
    refine for_it (walk_enL (xs := us))
      (fun c σ' H' => ∃ n ρ' B', Ok K l Z n B' H' σ' ρ' ∧
        Fr Z B1 H1 B' H' ∧ I c n ρ')
      ⟨m1, ρ, B1, o1, Fr.refl, h0⟩ (fun c σ' H' _ w => ?_)
      (fun c x σ' H' H'' hc w q => ?_) fun σ' H' w => ?_
    · obtain ⟨n, ρ', B', ok', fr', _⟩ := w
      exact SqL.of (ok'.sub _ _ (fr'.sub _ _ hu))
    · obtain ⟨T, x1, y1, rfl, hT, rfl, e1, e2⟩ := q
      cases e1
      obtain ⟨n, ρ', B', ok', fr', hI⟩ := w
      obtain ⟨e, q2, p2⟩ := (r1.mono fr'.sub).get e2
      obtain ⟨okJ, frJ⟩ := ok'.junk (o := .tup [.int (c : Nat), y1]) hT
      refine ⟨T, [.int (c : Nat), y1], rfl, SqT.of upd_same, rfl,
        .int (c : Nat), [y1], rfl, y1, [], rfl, rfl, ?_⟩
      refine hs c n ρ' e q2 hI Z B' _ _ _ ((okJ.set (.int _)).set p2)
        (fun σ2 ρ2 m2 B2 H2 o2 f2 g2 =>
          ⟨m2, ρ2, B2, o2, (fr'.trans frJ).trans f2, g2⟩)
        fun v d m2 B2 H2 o2 f2 i2 g2 => ?_
      exact jr v d m2 B2 H2 o2 ((f1.trans (fr'.trans frJ)).trans f2) i2 g2
    · obtain ⟨n, ρ', B', ok', fr', hI⟩ := w
      rw [r1.length] at hI
      exact k σ' ρ' n B' H' ok' (f1.trans fr') (hd n ρ' hI)
theorem s_forELw {i j : Nat}
    (h : AvC K l tA ρ m fun m1 as => ∃ ys, as = [.lst ys] ∧
      ∃ (k : Nat) (W : List Nat) (R : Nat → List (Option Sl) → Prop)
        (xs0 : List (Option Sl)),
      xs0.length = W.length ∧ ρ = put ρ W xs0 ∧ R 0 xs0 ∧
      (∀ (c n : Nat) e zs, ys[c]? = some e →
        n ≤ m1 + k * c → zs.length = W.length → R c zs →
        SvC K l tb (((put ρ W zs).set i (some (.dat (.int c)))).set j
            (some (.dat e))) n
          (fun n2 ρ2 => n2 ≤ n + k ∧ ∃ xs', xs'.length = W.length ∧
            ρ2 = put ρ W xs' ∧ R (c + 1) xs') Rt) ∧
      ∀ n zs, n ≤ m1 + k * ys.length → zs.length = W.length →
        R ys.length zs → Nx n (put ρ W zs)) :
    SvC K l (tFor (iEnL K tA) (g2 K i j) tb) ρ m Nx Rt := by
  refine s_forEL (a_imp h fun m1 x q => ?_)
  obtain ⟨ys, rfl, k, W, R, xs0, hl0, e0, h0, hb, hq⟩ := q
  refine ⟨_, rfl, fun i n ρ' => n ≤ m1 + k * i ∧
    ∃ xs, xs.length = W.length ∧ ρ' = put ρ W xs ∧ R i xs,
    ⟨Nat.le_add_right _ _, xs0, hl0, e0, h0⟩, ?_, ?_⟩
  · intro c n ρ' e he hI
    obtain ⟨hn, xs, hx, rfl, hR⟩ := hI
    refine s_imp (hb c n e xs he hn hx hR) (fun n2 ρ2 q => ⟨?_, q.2⟩)
      fun n d q => q
    have := q.1
    rw [Nat.mul_add, Nat.mul_one]
    omega
  · intro n ρ' hI
    obtain ⟨hn, xs, hx, rfl, hR⟩ := hI
    exact hq n xs hn hx hR
end
end Wt

namespace Wt
open PySem PySem.Spec PyProof.Rows L2
section
variable {K : PySem.W.Frag} {l : Option Addr} {ρ : Ro} {m : Nat} {Φ : Nat → D → Prop}
end
end Wt

namespace Wt
open PySem PySem.Spec PyProof.Rows L2
section
variable {K : PySem.W.Frag} {l : Option Addr} {ρ : Ro} {m : Nat}
variable {Nx : Nat → Ro → Prop} {Rt : Nat → D → Prop} {Φ : Nat → D → Prop} {ta te t1 t2 : TE} {tt : TT} {tA : TA} {tb : TS}
theorem f_rep {Ψ : Nat → List D → Prop} (h : EvC K l ta ρ m fun m1 x => EvC K l te ρ m1
      fun m2 y => ∃ xs, x = .lst xs ∧ ∃ z, y = .int z ∧ ∃ n : Nat, z = n ∧ n ≤ 1000 ∧ xs.length ≤ 100 ∧ Ψ m2 (List.replicate n xs).flatten) :
    EvF K l (tOp rRep ta te) ρ m Ψ := by
  intro Z B H σ W ok k
  refine h Z B H σ _ ok fun v1 d1 m1 B1 H1 o1 f1 i1 g1 => ?_
  refine g1 Z B1 H1 σ _ o1 fun v2 d2 m2 B2 H2 o2 f2 i2 g2 => ?_
  obtain ⟨xs, rfl, z, rfl, n, rfl, hn, hl, q⟩ := g2
  have i1' := i1.mono f2.sub
  cases i2
  cases i1' with
  | @lst a vs _ ha isa =>
    refine ⟨a, n, vs, rfl, rfl, o2.sub _ _ ha, by omega, by omega, ?_, fun p hp => ?_⟩
    · rw [isa.length, Int.toNat_natCast, sizeLine_eq]
      have : xs.length * n ≤ 100 * 1000 := Nat.mul_le_mul hl hn
      omega
    · rw [Int.toNat_natCast]
      have hz : ¬ Z p := fun z => (o2.zs p z).1 hp
      exact k p _ _ m2 B2 _ (o2.aside (o := .lst (List.replicate n vs).flatten) hp) ((f1.trans f2).trans ⟨Same.refl B2, fun z hz' => upd_ne fun e => hz (e ▸ hz')⟩) hz upd_same (isa.rep n) q
/-- a, (b, c) = x, y -/
theorem s_unp12 {i j r : Nat} (h : EvC K l t1 ρ m fun m1 x => EvC K l t2 ρ m1 fun m2 y => ∃ a b, y = .tup [a, b] ∧
      Nx m2 (((ρ.set i (some (.dat x))).set j (some (.dat a))).set r (some (.dat b)))) :
    SvC K l (tAsg (tTupC (tCons t1 (tCons t2 tNil))) (gTup K 2 (gCons (gName i) (gCons (gTup K 2 (gCons (gName j) (gCons (gName r) gNil))) gNil)))) ρ m Nx Rt := by
  intro Z B H σ W ok kk _
  refine h Z B H σ _ ok fun v x m1 B1 H1 o1 f1 i1 g1 => ?_
  refine g1 Z B1 H1 σ _ o1 fun w y m2 B2 H2 o2 f2 i2 g2 => ?_
  obtain ⟨a, b, rfl, q⟩ := g2
  refine ⟨by show 2 ≤ sizeLine; decide, fun T ob hT _ _ => ?_⟩
  obtain ⟨oJ, fJ⟩ := o2.junk (o := .frz ob (.tup [v, w])) hT
  cases i2 with
  | @tup a2 us2 _ hu2 r2 =>
    obtain ⟨x2, y2, rfl, p3, p4⟩ := isAll2 r2
    refine ⟨T, _, rfl, sqF upd_same, rfl, v, [.ref a2], rfl, .ref a2, [], rfl, ?_⟩
    refine ⟨a2, [x2, y2], rfl, sameT oJ.sub hu2, rfl, x2, [y2], rfl, y2, [], rfl, rfl, rfl, ?_⟩
    exact kk _ _ m2 B2 _ (((oJ.set (i1.mono f2.sub)).set p3).set p4) ((f1.trans f2).trans fJ) q
end
end Wt
local macro_rules | `(tactic| walk_at "ro") => `(tactic| (try dsimp only [Wt.put, Wt.r_set0, Wt.r_set1, Wt.r_map0, Wt.r_map1, Wt.r_app0, Wt.r_app1]))
local macro_rules | `(tactic| walk_at "ev1") => `(tactic| first
  | with_reducible refine Wt.s_seq ?_ | with_reducible refine Wt.s_ret ?_
  | ((with_reducible refine Wt.s_par ?_); (walk_at "ro")) | ((with_reducible refine Wt.s_repOwn ?_); (walk_at "ro")) | ((with_reducible refine Wt.s_asg ?_); (walk_at "ro"))
  | with_reducible refine Wt.s_if ?_ | with_reducible refine Wt.s_next ?_
  | with_reducible refine Wt.t_or ?_ | with_reducible refine Wt.t_and ?_
  | with_reducible refine Wt.t_not ?_ | with_reducible refine Wt.t_test ?_
  | with_reducible refine Wt.t_B ?_ | with_reducible refine Wt.e_andV ?_
  | with_reducible refine Wt.e_orV ?_ | with_reducible refine Wt.e_notV ?_
  | with_reducible refine Wt.e_if ?_ | with_reducible refine Wt.e_chain ?_
  | ((with_reducible refine Wt.e_hand0 (by with_unfolding_all rfl) ?_); (intro _ _ _))
  | ((with_reducible refine Wt.e_hand1 (by with_unfolding_all rfl) ?_); (intro _ _ _))
  | ((with_reducible refine Wt.e_hand2 (by with_unfolding_all rfl) ?_); (intro _ _ _))
  | with_reducible refine Wt.e_op ?_ | with_reducible refine Wt.e_un ?_
  | with_reducible refine Wt.e_isi Wt.kit_int ?_
  | with_reducible refine Wt.e_isi Wt.kit_bool ?_
  | with_reducible refine Wt.e_isi Wt.kit_tup ?_
  | with_reducible refine Wt.e_cb ?_ | with_reducible refine Wt.e_tup ?_
  | with_reducible refine Wt.e_lst ?_ | with_reducible refine Wt.a_cons ?_
  | with_reducible refine Wt.a_nil ?_ | with_reducible refine Wt.e_int ?_
  | with_reducible refine Wt.e_bl ?_ | with_reducible refine Wt.e_non ?_
  | with_reducible refine Wt.e_str ?_
  | with_reducible refine Wt.e_var (by with_unfolding_all rfl) ?_
  | with_reducible refine Wt.e_dic0 ?_ | with_reducible refine Wt.e_dic1 ?_
  | with_reducible refine Wt.e_callP ?_ | with_reducible refine Wt.e_callR ?_
  | with_reducible refine Wt.e_callH (by with_unfolding_all rfl) ?_
  | with_reducible refine Wt.e_revT ?_ | with_reducible refine Wt.e_tupRg ?_
  | with_reducible refine Wt.e_lstRg ?_ | with_reducible refine Wt.e_slL ?_
  | with_reducible refine Wt.e_make ?_
  | with_reducible refine Wt.e_fld1 (by assumption) ?_
  | with_reducible refine Wt.e_fld2 (by assumption) (by decide) ?_
  | ((with_reducible refine Wt.s_par3 ?_); (walk_at "ro"))
  | with_reducible refine Wt.e_slT ?_ | with_reducible refine Wt.o_none ?_
  | with_reducible refine Wt.o_some ?_
  | with_reducible refine Wt.v_I0 ?_ | with_reducible refine Wt.v_B0 ?_
  | ((with_reducible refine Wt.v_I ?hc ?_); (case hc => first | decide | exact ⟨by decide, by decide, by decide⟩ | exact ⟨by decide, by decide⟩ | exact .inl ⟨by decide, by decide⟩ | exact .inr ⟨by decide, by decide⟩ | assumption))
  | with_reducible refine Wt.v_lenT ?_ | with_reducible refine Wt.v_lenL ?_
  | with_reducible refine Wt.v_neSame ?_ | with_reducible refine Wt.v_eqSame ?_
  | with_reducible refine Wt.v_repr (by assumption) ?_
  | with_reducible refine Wt.v_isNn ?_
  | with_reducible refine Wt.v_lenS ?_ | with_reducible refine Wt.v_eqS ?_
  | with_reducible refine Wt.v_neS ?_ | with_reducible refine Wt.v_abs ?_
  | with_reducible refine Wt.v_intB ?_ | with_reducible refine Wt.v_max2 ?_
  | with_reducible refine Wt.v_min2 ?_ | with_reducible refine Wt.v_listT ?_
  | with_reducible refine Wt.v_tupL ?_ | with_reducible refine Wt.v_neg ?_
  | with_reducible refine Wt.v_ixT (by decide) (by with_unfolding_all rfl) ?_
  | with_reducible refine Wt.v_ixL (by decide) (by with_unfolding_all rfl) ?_
  | with_reducible refine Wt.v_ixN (by assumption) ?_
  | with_reducible refine Wt.v_ixNL (by assumption) ?_
  | with_reducible refine Wt.v_eqDi ?_ | with_reducible refine Wt.v_neDi ?_
  | with_reducible refine Wt.v_eqI ?_ | with_reducible refine Wt.v_neI ?_
  | (rw [if_neg Bool.false_ne_true]) | (rw [if_pos (rfl : true = true)])
  | (rw [Bool.not_true]) | (rw [Bool.not_false])
  | with_reducible refine ⟨_, rfl, ?_⟩
  | with_reducible refine ⟨_, _, rfl, rfl, ?_⟩
  | with_reducible refine ⟨_, _, rfl, ?_⟩
  | ((with_reducible refine And.intro ?hz ?_); (case hz => first | rfl | (simp; done)))
  | ((refine Wt.s_unp2 ?_); (walk_at "ro")) | refine Wt.e_methO (by assumption) (by decide) (by decide) ?_)
local macro_rules | `(tactic| walk_at "ev") => `(tactic| (repeat walk_at "ev1"))
local macro_rules | `(tactic| walk_at "body") => `(tactic| (dsimp only [L2.cxOf, L2.Cx.nox, L2.Cx.blk, List.length_cons, List.length_nil, Wt.datR, Wt.r_map0, Wt.r_map1, Nat.reduceAdd, Nat.reduceSub, Nat.zero_add, Wt.r_rep0, Wt.r_rep1, List.replicate, Wt.r_app0, Wt.r_app1]))
namespace Wl
open PySem PySem.Spec PyProof.Rows L2 Wt
def topS (i : Nat) : Stmt := PySem.Challenge.pw_wholeturn_k41_least_times_to_a_place.main.body.getD i (.Pass ⟨0, 0, 0, 0⟩)
def inS (i j : Nat) : Stmt := match topS i with
  | .ClassDef _ _ _ b _ _ _ _ _ _ _ => b.getD j (.Pass ⟨0, 0, 0, 0⟩)
  | _ => .Pass ⟨0, 0, 0, 0⟩
abbrev s_is_whole : Stmt := topS 1
theorem sc_is_whole : FnScope ["thing"] ["thing"] (defScope s_is_whole) :=
  ⟨rfl, rfl, rfl, by decide +kernel, rfl, by decide +kernel, by decide +kernel⟩
theorem bi_is_whole {K : PySem.W.Frag} {f : Addr} {fd : FuncData}
    (F : Fun K "is_whole" "is_whole" s_is_whole f fd) : Binds K fd ["thing"] [] :=
  F.binds fun _ _ _ _ _ _ us hl => match us, hl with | [_], _ => rfl
abbrev s_is_within : Stmt := topS 2
theorem sc_is_within : FnScope ["thing", "least", "most"] ["thing", "least", "most"] (defScope s_is_within) :=
  ⟨rfl, rfl, rfl, by decide +kernel, rfl, by decide +kernel, by decide +kernel⟩
theorem bi_is_within {K : PySem.W.Frag} {f : Addr} {fd : FuncData}
    (F : Fun K "is_within" "is_within" s_is_within f fd) : Binds K fd ["thing", "least", "most"] [] :=
  F.binds fun _ _ _ _ _ _ us hl => match us, hl with | [_, _, _], _ => rfl
abbrev s_product : Stmt := topS 3
theorem sc_product : FnScope ["numbers", "result", "number"] ["numbers"] (defScope s_product) :=
  ⟨rfl, rfl, rfl, by decide +kernel, rfl, by decide +kernel, by decide +kernel⟩
theorem bi_product {K : PySem.W.Frag} {f : Addr} {fd : FuncData}
    (F : Fun K "product" "product" s_product f fd) : Binds K fd ["numbers"] [] :=
  F.binds fun _ _ _ _ _ _ us hl => match us, hl with | [_], _ => rfl
abbrev s_is_measure : Stmt := topS 9
theorem sc_is_measure : FnScope ["thing", "number"] ["thing"] (defScope s_is_measure) :=
  ⟨rfl, rfl, rfl, by decide +kernel, rfl, by decide +kernel, by decide +kernel⟩
theorem bi_is_measure {K : PySem.W.Frag} {f : Addr} {fd : FuncData}
    (F : Fun K "is_measure" "is_measure" s_is_measure f fd) : Binds K fd ["thing"] [] :=
  F.binds fun _ _ _ _ _ _ us hl => match us, hl with | [_], _ => rfl
abbrev s_nought : Stmt := topS 10
theorem sc_nought : FnScope ["measure"] ["measure"] (defScope s_nought) :=
  ⟨rfl, rfl, rfl, by decide +kernel, rfl, by decide +kernel, by decide +kernel⟩
theorem bi_nought {K : PySem.W.Frag} {f : Addr} {fd : FuncData}
    (F : Fun K "nought" "nought" s_nought f fd) : Binds K fd ["measure"] [] :=
  F.binds fun _ _ _ _ _ _ us hl => match us, hl with | [_], _ => rfl
abbrev s_tie_sum : Stmt := topS 11
theorem sc_tie_sum : FnScope ["measure", "one", "other", "left", "right", "limit"] ["measure", "one", "other"] (defScope s_tie_sum) :=
  ⟨rfl, rfl, rfl, by decide +kernel, rfl, by decide +kernel, by decide +kernel⟩
theorem bi_tie_sum {K : PySem.W.Frag} {f : Addr} {fd : FuncData}
    (F : Fun K "tie_sum" "tie_sum" s_tie_sum f fd) : Binds K fd ["measure", "one", "other"] [] :=
  F.binds fun _ _ _ _ _ _ us hl => match us, hl with | [_, _, _], _ => rfl
abbrev s_table_tie : Stmt := topS 13
theorem sc_table_tie : FnScope ["table", "one", "other"] ["table", "one", "other"] (defScope s_table_tie) :=
  ⟨rfl, rfl, rfl, by decide +kernel, rfl, by decide +kernel, by decide +kernel⟩
theorem bi_table_tie {K : PySem.W.Frag} {f : Addr} {fd : FuncData}
    (F : Fun K "table_tie" "table_tie" s_table_tie f fd) : Binds K fd ["table", "one", "other"] [] :=
  F.binds fun _ _ _ _ _ _ us hl => match us, hl with | [_, _, _], _ => rfl
abbrev s_lead_place : Stmt := topS 15
theorem sc_lead_place : FnScope ["frame", "turning", "place", "others", "leads", "moves", "stem", "says", "other", "tie"] ["frame", "turning", "place"] (defScope s_lead_place) :=
  ⟨rfl, rfl, rfl, by decide +kernel, rfl, by decide +kernel, by decide +kernel⟩
theorem bi_lead_place {K : PySem.W.Frag} {f : Addr} {fd : FuncData}
    (F : Fun K "lead_place" "lead_place" s_lead_place f fd) : Binds K fd ["frame", "turning", "place"] [] :=
  F.binds fun _ _ _ _ _ _ us hl => match us, hl with | [_, _, _], _ => rfl
abbrev s_times_to : Stmt := topS 17
theorem sc_times_to : FnScope ["frame", "turning", "one", "other", "here", "times"] ["frame", "turning", "one", "other"] (defScope s_times_to) :=
  ⟨rfl, rfl, rfl, by decide +kernel, rfl, by decide +kernel, by decide +kernel⟩
theorem bi_times_to {K : PySem.W.Frag} {f : Addr} {fd : FuncData}
    (F : Fun K "times_to" "times_to" s_times_to f fd) : Binds K fd ["frame", "turning", "one", "other"] [] :=
  F.binds fun _ _ _ _ _ _ us hl => match us, hl with | [_, _, _, _], _ => rfl
abbrev s_Frame_init : Stmt := inS 25 0
theorem sc_Frame_init : FnScope ["self", "measure", "hues"] ["self", "measure", "hues"] (defScope s_Frame_init) :=
  ⟨rfl, rfl, rfl, by decide +kernel, rfl, by decide +kernel, by decide +kernel⟩
theorem bi_Frame_init {K : PySem.W.Frag} {f : Addr} {fd : FuncData}
    (F : Fun K "__init__" "Frame.__init__" s_Frame_init f fd) : Binds K fd ["self", "measure", "hues"] [] :=
  F.binds fun _ _ _ _ _ _ us hl => match us, hl with | [_, _, _], _ => rfl
abbrev s_Frame_stem_count : Stmt := inS 25 2
theorem sc_Frame_stem_count : FnScope ["self"] ["self"] (defScope s_Frame_stem_count) :=
  ⟨rfl, rfl, rfl, by decide +kernel, rfl, by decide +kernel, by decide +kernel⟩
theorem bi_Frame_stem_count {K : PySem.W.Frag} {f : Addr} {fd : FuncData}
    (F : Fun K "stem_count" "Frame.stem_count" s_Frame_stem_count f fd) : Binds K fd ["self"] [] :=
  F.binds fun _ _ _ _ _ _ us hl => match us, hl with | [_], _ => rfl
abbrev s_are_hues : Stmt := topS 26
theorem sc_are_hues : FnScope ["thing", "hue"] ["thing"] (defScope s_are_hues) :=
  ⟨rfl, rfl, rfl, by decide +kernel, rfl, by decide +kernel, by decide +kernel⟩
theorem bi_are_hues {K : PySem.W.Frag} {f : Addr} {fd : FuncData}
    (F : Fun K "are_hues" "are_hues" s_are_hues f fd) : Binds K fd ["thing"] [] :=
  F.binds fun _ _ _ _ _ _ us hl => match us, hl with | [_], _ => rfl
abbrev s_is_hue : Stmt := topS 27
theorem sc_is_hue : FnScope ["thing"] ["thing"] (defScope s_is_hue) :=
  ⟨rfl, rfl, rfl, by decide +kernel, rfl, by decide +kernel, by decide +kernel⟩
theorem bi_is_hue {K : PySem.W.Frag} {f : Addr} {fd : FuncData}
    (F : Fun K "is_hue" "is_hue" s_is_hue f fd) : Binds K fd ["thing"] [] :=
  F.binds fun _ _ _ _ _ _ us hl => match us, hl with | [_], _ => rfl
abbrev s__law_hand : Stmt := topS 29
theorem sc__law_hand : FnScope ["_law_script", "_law_k", "_law_cell", "_law_great_here"] ["_law_script", "_law_k"] (defScope s__law_hand) :=
  ⟨rfl, rfl, rfl, by decide +kernel, rfl, by decide +kernel, by decide +kernel⟩
theorem bi__law_hand {K : PySem.W.Frag} {f : Addr} {fd : FuncData}
    (F : Fun K "_law_hand" "_law_hand" s__law_hand f fd) : Binds K fd ["_law_script", "_law_k"] [] :=
  F.binds fun _ _ _ _ _ _ us hl => match us, hl with | [_, _], _ => rfl
abbrev s__law_take : Stmt := topS 30
theorem sc__law_take : FnScope ["_law_hand_here", "_law_many", "_law_prime", "_law_drawn", "_law_digit"] ["_law_hand_here", "_law_many"] (defScope s__law_take) :=
  ⟨rfl, rfl, rfl, by decide +kernel, rfl, by decide +kernel, by decide +kernel⟩
theorem bi__law_take {K : PySem.W.Frag} {f : Addr} {fd : FuncData}
    (F : Fun K "_law_take" "_law_take" s__law_take f fd) : Binds K fd ["_law_hand_here", "_law_many"] [] :=
  F.binds fun _ _ _ _ _ _ us hl => match us, hl with | [_, _], _ => rfl
abbrev s__law_of : Stmt := topS 31
theorem sc__law_of : FnScope ["_law_hand_here", "_law_some"] ["_law_hand_here", "_law_some"] (defScope s__law_of) :=
  ⟨rfl, rfl, rfl, by decide +kernel, rfl, by decide +kernel, by decide +kernel⟩
theorem bi__law_of {K : PySem.W.Frag} {f : Addr} {fd : FuncData}
    (F : Fun K "_law_of" "_law_of" s__law_of f fd) : Binds K fd ["_law_hand_here", "_law_some"] [] :=
  F.binds fun _ _ _ _ _ _ us hl => match us, hl with | [_, _], _ => rfl
abbrev s__law_mixed : Stmt := topS 32
theorem sc__law_mixed : FnScope ["_law_hand_here", "_law_some", "_law_left", "_law_found"] ["_law_hand_here", "_law_some"] (defScope s__law_mixed) :=
  ⟨rfl, rfl, rfl, by decide +kernel, rfl, by decide +kernel, by decide +kernel⟩
theorem bi__law_mixed {K : PySem.W.Frag} {f : Addr} {fd : FuncData}
    (F : Fun K "_law_mixed" "_law_mixed" s__law_mixed f fd) : Binds K fd ["_law_hand_here", "_law_some"] [] :=
  F.binds fun _ _ _ _ _ _ us hl => match us, hl with | [_, _], _ => rfl
abbrev s__law_scale : Stmt := topS 33
theorem sc__law_scale : FnScope ["_law_hand_here", "_law_some"] ["_law_hand_here"] (defScope s__law_scale) :=
  ⟨rfl, rfl, rfl, by decide +kernel, rfl, by decide +kernel, by decide +kernel⟩
theorem bi__law_scale {K : PySem.W.Frag} {f : Addr} {fd : FuncData}
    (F : Fun K "_law_scale" "_law_scale" s__law_scale f fd) : Binds K fd ["_law_hand_here"] [] :=
  F.binds fun _ _ _ _ _ _ us hl => match us, hl with | [_], _ => rfl
abbrev s__law_colours : Stmt := topS 34
theorem sc__law_colours : FnScope ["_law_hand_here", "_law_most", "_law_kinds", "_law_turn"] ["_law_hand_here", "_law_most"] (defScope s__law_colours) :=
  ⟨rfl, rfl, rfl, by decide +kernel, rfl, by decide +kernel, by decide +kernel⟩
theorem bi__law_colours {K : PySem.W.Frag} {f : Addr} {fd : FuncData}
    (F : Fun K "_law_colours" "_law_colours" s__law_colours f fd) : Binds K fd ["_law_hand_here", "_law_most"] [] :=
  F.binds fun _ _ _ _ _ _ us hl => match us, hl with | [_, _], _ => rfl
abbrev s__law_knot : Stmt := topS 35
theorem sc__law_knot : FnScope ["_law_hand_here", "_law_scale_here", "_law_size"] ["_law_hand_here", "_law_scale_here"] (defScope s__law_knot) :=
  ⟨rfl, rfl, rfl, by decide +kernel, rfl, by decide +kernel, by decide +kernel⟩
theorem bi__law_knot {K : PySem.W.Frag} {f : Addr} {fd : FuncData}
    (F : Fun K "_law_knot" "_law_knot" s__law_knot f fd) : Binds K fd ["_law_hand_here", "_law_scale_here"] [] :=
  F.binds fun _ _ _ _ _ _ us hl => match us, hl with | [_, _], _ => rfl
abbrev s__law_grid : Stmt := topS 36
theorem sc__law_grid : FnScope ["_law_hand_here", "_law_scale_here", "_law_many", "_law_at_here", "_law_found", "_law_dense", "_law_line", "_law_to"] ["_law_hand_here", "_law_scale_here", "_law_many"] (defScope s__law_grid) :=
  ⟨rfl, rfl, rfl, by decide +kernel, rfl, by decide +kernel, by decide +kernel⟩
theorem bi__law_grid {K : PySem.W.Frag} {f : Addr} {fd : FuncData}
    (F : Fun K "_law_grid" "_law_grid" s__law_grid f fd) : Binds K fd ["_law_hand_here", "_law_scale_here", "_law_many"] [] :=
  F.binds fun _ _ _ _ _ _ us hl => match us, hl with | [_, _, _], _ => rfl
abbrev s__law_spot : Stmt := topS 37
theorem sc__law_spot : FnScope ["_law_hand_here", "_law_scale_here", "_law_many", "_law_at_here", "_law_to"] ["_law_hand_here", "_law_scale_here", "_law_many", "_law_at_here"] (defScope s__law_spot) :=
  ⟨rfl, rfl, rfl, by decide +kernel, rfl, by decide +kernel, by decide +kernel⟩
theorem bi__law_spot {K : PySem.W.Frag} {f : Addr} {fd : FuncData}
    (F : Fun K "_law_spot" "_law_spot" s__law_spot f fd) : Binds K fd ["_law_hand_here", "_law_scale_here", "_law_many", "_law_at_here"] [] :=
  F.binds fun _ _ _ _ _ _ us hl => match us, hl with | [_, _, _, _], _ => rfl
abbrev s__law_leads : Stmt := topS 38
theorem sc__law_leads : FnScope ["_law_hand_here", "_law_hues", "_law_left", "_law_hue", "_law_at_here"] ["_law_hand_here", "_law_hues"] (defScope s__law_leads) :=
  ⟨rfl, rfl, rfl, by decide +kernel, rfl, by decide +kernel, by decide +kernel⟩
theorem bi__law_leads {K : PySem.W.Frag} {f : Addr} {fd : FuncData}
    (F : Fun K "_law_leads" "_law_leads" s__law_leads f fd) : Binds K fd ["_law_hand_here", "_law_hues"] [] :=
  F.binds fun _ _ _ _ _ _ us hl => match us, hl with | [_, _], _ => rfl
abbrev s__law_turning : Stmt := topS 39
theorem sc__law_turning : FnScope ["_law_hand_here", "_law_scale_here", "_law_hues"] ["_law_hand_here", "_law_scale_here", "_law_hues"] (defScope s__law_turning) :=
  ⟨rfl, rfl, rfl, by decide +kernel, rfl, by decide +kernel, by decide +kernel⟩
theorem bi__law_turning {K : PySem.W.Frag} {f : Addr} {fd : FuncData}
    (F : Fun K "_law_turning" "_law_turning" s__law_turning f fd) : Binds K fd ["_law_hand_here", "_law_scale_here", "_law_hues"] [] :=
  F.binds fun _ _ _ _ _ _ us hl => match us, hl with | [_, _, _], _ => rfl
abbrev s__law_sum : Stmt := topS 40
theorem sc__law_sum : FnScope ["_law_scale_here", "_law_here", "_law_there", "_law_mine", "_law_its", "_law_size"] ["_law_scale_here", "_law_here", "_law_there"] (defScope s__law_sum) :=
  ⟨rfl, rfl, rfl, by decide +kernel, rfl, by decide +kernel, by decide +kernel⟩
theorem bi__law_sum {K : PySem.W.Frag} {f : Addr} {fd : FuncData}
    (F : Fun K "_law_sum" "_law_sum" s__law_sum f fd) : Binds K fd ["_law_scale_here", "_law_here", "_law_there"] [] :=
  F.binds fun _ _ _ _ _ _ us hl => match us, hl with | [_, _, _], _ => rfl
abbrev s__law_at : Stmt := topS 41
theorem sc__law_at : FnScope ["_law_grid_here", "_law_at_here", "_law_to"] ["_law_grid_here", "_law_at_here", "_law_to"] (defScope s__law_at) :=
  ⟨rfl, rfl, rfl, by decide +kernel, rfl, by decide +kernel, by decide +kernel⟩
theorem bi__law_at {K : PySem.W.Frag} {f : Addr} {fd : FuncData}
    (F : Fun K "_law_at" "_law_at" s__law_at f fd) : Binds K fd ["_law_grid_here", "_law_at_here", "_law_to"] [] :=
  F.binds fun _ _ _ _ _ _ us hl => match us, hl with | [_, _, _], _ => rfl
abbrev s__law_led : Stmt := topS 42
theorem sc__law_led : FnScope ["_law_scale_here", "_law_turn", "_law_spot_here", "_law_found", "_law_to", "_law_at_here", "_law_says"] ["_law_scale_here", "_law_turn", "_law_spot_here"] (defScope s__law_led) :=
  ⟨rfl, rfl, rfl, by decide +kernel, rfl, by decide +kernel, by decide +kernel⟩
theorem bi__law_led {K : PySem.W.Frag} {f : Addr} {fd : FuncData}
    (F : Fun K "_law_led" "_law_led" s__law_led f fd) : Binds K fd ["_law_scale_here", "_law_turn", "_law_spot_here"] [] :=
  F.binds fun _ _ _ _ _ _ us hl => match us, hl with | [_, _, _], _ => rfl
abbrev s__law_still : Stmt := topS 43
theorem sc__law_still : FnScope ["_law_scale_here", "_law_size", "_law_at_here"] ["_law_scale_here", "_law_size"] (defScope s__law_still) :=
  ⟨rfl, rfl, rfl, by decide +kernel, rfl, by decide +kernel, by decide +kernel⟩
theorem bi__law_still {K : PySem.W.Frag} {f : Addr} {fd : FuncData}
    (F : Fun K "_law_still" "_law_still" s__law_still f fd) : Binds K fd ["_law_scale_here", "_law_size"] [] :=
  F.binds fun _ _ _ _ _ _ us hl => match us, hl with | [_, _], _ => rfl
abbrev s__law_spots : Stmt := topS 44
theorem sc__law_spots : FnScope ["_law_hand_here", "_law_scale_here", "_law_size", "_law_many", "_law_found", "_law_turn", "_law_some", "_law_once", "_law_at_here", "_law_says", "_law_to"] ["_law_hand_here", "_law_scale_here", "_law_size", "_law_many"] (defScope s__law_spots) :=
  ⟨rfl, rfl, rfl, by decide +kernel, rfl, by decide +kernel, by decide +kernel⟩
theorem bi__law_spots {K : PySem.W.Frag} {f : Addr} {fd : FuncData}
    (F : Fun K "_law_spots" "_law_spots" s__law_spots f fd) : Binds K fd ["_law_hand_here", "_law_scale_here", "_law_size", "_law_many"] [] :=
  F.binds fun _ _ _ _ _ _ us hl => match us, hl with | [_, _, _, _], _ => rfl
abbrev s__law_ring : Stmt := topS 45
theorem sc__law_ring : FnScope ["_law_scale_here", "_law_turn", "_law_spot_here", "_law_found", "_law_here"] ["_law_scale_here", "_law_turn", "_law_spot_here"] (defScope s__law_ring) :=
  ⟨rfl, rfl, rfl, by decide +kernel, rfl, by decide +kernel, by decide +kernel⟩
theorem bi__law_ring {K : PySem.W.Frag} {f : Addr} {fd : FuncData}
    (F : Fun K "_law_ring" "_law_ring" s__law_ring f fd) : Binds K fd ["_law_scale_here", "_law_turn", "_law_spot_here"] [] :=
  F.binds fun _ _ _ _ _ _ us hl => match us, hl with | [_, _, _], _ => rfl
abbrev s__law_great : Stmt := topS 46
theorem sc__law_great : FnScope ["_law_hand_here", "_law_most"] ["_law_hand_here", "_law_most"] (defScope s__law_great) :=
  ⟨rfl, rfl, rfl, by decide +kernel, rfl, by decide +kernel, by decide +kernel⟩
theorem bi__law_great {K : PySem.W.Frag} {f : Addr} {fd : FuncData}
    (F : Fun K "_law_great" "_law_great" s__law_great f fd) : Binds K fd ["_law_hand_here", "_law_most"] [] :=
  F.binds fun _ _ _ _ _ _ us hl => match us, hl with | [_, _], _ => rfl
abbrev s__law_long : Stmt := topS 47
theorem sc__law_long : FnScope ["_law_hand_here", "_law_path", "_law_grid_here", "_law_other", "_law_order", "_law_leads_here", "_law_spot_here", "_law_to", "_law_line", "_law_high", "_law_low"] ["_law_hand_here"] (defScope s__law_long) :=
  ⟨rfl, rfl, rfl, by decide +kernel, rfl, by decide +kernel, by decide +kernel⟩
theorem bi__law_long {K : PySem.W.Frag} {f : Addr} {fd : FuncData}
    (F : Fun K "_law_long" "_law_long" s__law_long f fd) : Binds K fd ["_law_hand_here"] [] :=
  F.binds fun _ _ _ _ _ _ us hl => match us, hl with | [_], _ => rfl
abbrev s__law_right : Stmt := topS 48
theorem sc__law_right : FnScope ["_law_hand_here", "_law_scale_here", "_law_hues", "_law_turn", "_law_spot_here", "_law_near", "_law_some", "_law_other", "_law_frame", "_law_path", "_law_far", "_law_at_here", "_law_due"] ["_law_hand_here", "_law_scale_here", "_law_hues", "_law_turn", "_law_spot_here"] (defScope s__law_right) :=
  ⟨rfl, rfl, rfl, by decide +kernel, rfl, by decide +kernel, by decide +kernel⟩
theorem bi__law_right {K : PySem.W.Frag} {f : Addr} {fd : FuncData}
    (F : Fun K "_law_right" "_law_right" s__law_right f fd) : Binds K fd ["_law_hand_here", "_law_scale_here", "_law_hues", "_law_turn", "_law_spot_here"] [] :=
  F.binds fun _ _ _ _ _ _ us hl => match us, hl with | [_, _, _, _, _], _ => rfl
abbrev s__law_far_right : Stmt := topS 49
theorem sc__law_far_right : FnScope ["_law_hand_here", "_law_even", "_law_path", "_law_far", "_law_off", "_law_frame", "_law_turn", "_law_order", "_law_to"] ["_law_hand_here"] (defScope s__law_far_right) :=
  ⟨rfl, rfl, rfl, by decide +kernel, rfl, by decide +kernel, by decide +kernel⟩
theorem bi__law_far_right {K : PySem.W.Frag} {f : Addr} {fd : FuncData}
    (F : Fun K "_law_far_right" "_law_far_right" s__law_far_right f fd) : Binds K fd ["_law_hand_here"] [] :=
  F.binds fun _ _ _ _ _ _ us hl => match us, hl with | [_], _ => rfl
abbrev s_law : Stmt := topS 50
theorem sc_law : FnScope ["_law_script", "_law_k", "_law_hand_here", "_law_go", "_law_turn", "_law_spot_here", "_law_scale_here", "_law_hues"] ["_law_script"] (defScope s_law) :=
  ⟨rfl, rfl, rfl, by decide +kernel, rfl, by decide +kernel, by decide +kernel⟩
def D.whole : D → Bool
  | .int _ => true
  | _ => false
def preWhole (ds : List D) : Prop := ∃ d, ds = [d] ∧ d.own = false
def fWhole : List D → D
  | [d] => .bl (D.whole d)
  | _ => .non
def D.within (a b : Int) : D → Bool
  | .int i => decide (a ≤ i) && decide (i ≤ b)
  | _ => false
def preWithin (ds : List D) : Prop :=
  ∃ d a b, ds = [d, .int a, .int b] ∧ d.own = false
def fWithin : List D → D
  | [d, .int a, .int b] => .bl (D.within a b d)
  | _ => .non
def dints (ns : List Int) : List D := ns.map D.int
def preProd (ds : List D) : Prop :=
  ∃ ns : List Int, ds = [.tup (dints ns)] ∧ ∀ n ∈ ns, 2 ≤ n ∧ n ≤ 5
def D.prod : List D → Int
  | .int i :: r => i * D.prod r
  | _ => 1
def D.meas : D → Bool
  | .tup xs => decide (1 ≤ xs.length) && decide (xs.length ≤ 3) &&
      xs.all (D.within 2 5) && decide (D.prod xs ≤ 30)
  | _ => false
def preMeas (ds : List D) : Prop := ∃ d, ds = [d] ∧ d.plain = true
def fMeas : List D → D
  | [d] => .bl (D.meas d)
  | _ => .non
def preHand (ds : List D) : Prop :=
  ∃ ns k, ds = [.scr ns, .int k] ∧ 0 ≤ k ∧ k ≤ 1000
def takeB : Int := 16 ^ 16 * 125 ^ 140
theorem takeB_of {n : Int} (h : n < 2 ^ 62) : n < takeB := Int.lt_trans h (by unfold takeB; decide +kernel)
theorem takeB_nat {n : Int} (h0 : 0 < n) (h : n < takeB) : n.natAbs < 2 ^ 1100 := by
  have e : takeB.natAbs < 2 ^ 1100 := by unfold takeB; decide +kernel
  refine Nat.lt_of_le_of_lt ?_ e
  omega
def preTake (m : Nat) (ds : List D) : Prop :=
  m < 10000000 ∧ ∃ n : Int, ds = [.int n] ∧ 0 < n ∧ n < takeB
def psiTake (ds : List D) (m m' : Nat) (d : D) : Prop :=
  m' ≤ m + 1 ∧ ∃ n r : Int, ds = [.int n] ∧ d = .int r ∧ 0 ≤ r ∧ r < n
def preOf (m : Nat) (ds : List D) : Prop :=
  m < 10000000 ∧ ∃ c xs, ds = [c] ∧ c.items = some xs ∧ xs ≠ [] ∧
    xs.length < 1000000
def psiOf (ds : List D) (m m' : Nat) (d : D) : Prop :=
  m' ≤ m + 1 ∧ ∃ c xs, ds = [c] ∧ c.items = some xs ∧ d ∈ xs
theorem plain_own {d : D} (h : d.plain = true) : d.own = false := by
  cases d <;> first | rfl | (simp [D.plain] at h)
theorem plains_mem : ∀ {xs : List D} {x : D}, D.plains xs = true → x ∈ xs →
    x.plain = true
  | y :: ys, x, h, hm => by
    rw [D.plains, Bool.and_eq_true] at h
    rcases List.mem_cons.mp hm with rfl | hm
    · exact h.1
    · exact plains_mem h.2 hm
theorem prod_append (ns : List Int) (n : Int) :
    D.prod (dints (ns ++ [n])) = D.prod (dints ns) * n := by
  induction ns with
  | nil => simp [dints, D.prod]
  | cons a r ih =>
    have e1 : D.prod (dints (a :: r ++ [n])) = a * D.prod (dints (r ++ [n])) := rfl
    have e2 : D.prod (dints (a :: r)) = a * D.prod (dints r) := rfl
    rw [e1, e2, ih, Int.mul_assoc]
theorem prod_take {ns : List Int} {i : Nat} (h : i < ns.length) :
    D.prod (dints (ns.take (i + 1))) = D.prod (dints (ns.take i)) * ns[i] := by
  rw [List.take_add_one, List.getElem?_eq_getElem h]
  exact prod_append _ _
theorem within_len {n : Nat} {b : Bool} (h : D.within 1 3 (.int n) = b) :
    (decide (1 ≤ n) && decide (n ≤ 3)) = b := by
  rw [← h, D.within]
  congr 1
  · simp only [decide_eq_decide]; omega
  · simp only [decide_eq_decide]; omega
theorem prod_pre {xs : List D} (h : xs.all (D.within 2 5) = true) :
    preProd [.tup xs] := by
  have key : ∀ xs : List D, xs.all (D.within 2 5) = true →
      ∃ ns : List Int, xs = dints ns ∧ ∀ n ∈ ns, 2 ≤ n ∧ n ≤ 5 := by
    intro xs
    induction xs with
    | nil => intro _; exact ⟨[], rfl, fun _ z => (nomatch z)⟩
    | cons x r ih =>
      intro h
      rw [List.all_cons, Bool.and_eq_true] at h
      obtain ⟨ns, rfl, hn⟩ := ih h.2
      cases x with
      | int i =>
        have hi := h.1
        rw [D.within, Bool.and_eq_true, decide_eq_true_eq, decide_eq_true_eq] at hi
        refine ⟨i :: ns, rfl, fun n hm => ?_⟩
        rcases List.mem_cons.mp hm with rfl | hm
        · exact hi
        · exact hn n hm
      | _ => simp [D.within] at h
  obtain ⟨ns, rfl, hn⟩ := key xs h
  exact ⟨ns, rfl, hn⟩
theorem primes_at {i : Int} (h0 : 0 ≤ i) (h1 : i < 7) : ∃ p : Int,
    [D.int 2147483647, .int 2147483629, .int 2147483587, .int 2147483579,
      .int 2147483563, .int 2147483549, .int 2147483543][i.toNat]? =
      some (.int p) ∧ 0 < p ∧ p < 2147483648 := by
  have : i = 0 ∨ i = 1 ∨ i = 2 ∨ i = 3 ∨ i = 4 ∨ i = 5 ∨ i = 6 := by omega
  rcases this with rfl | rfl | rfl | rfl | rfl | rfl | rfl <;>
    exact ⟨_, rfl, by decide, by decide⟩
theorem hand_mul (x : Int) (b : Bool) :
    CMulW (x % 10 ^ 600) (if b then 1 else 0) := by
  have h1 := Int.emod_nonneg x (show (10 : Int) ^ 600 ≠ 0 by decide +kernel)
  have h2 := Int.emod_lt_of_pos x (show (0 : Int) < 10 ^ 600 by decide +kernel)
  refine wide_mul (a := 2000) (b := 1) ?_ (by cases b <;> decide)
    (by decide) (by decide) (by decide)
  have h3 : (10 : Int) ^ 600 ≤ 2 ^ 2000 := by decide +kernel
  omega
theorem hand_is (x y z : Int) (b : Bool) :
    isHand (.lst [.int (x % 10 ^ 600 * if b then 1 else 0),
      .int ((y + z + 97) % 2305843009213693921), .int 0]) := by
  have h1 := Int.emod_nonneg x (show (10 : Int) ^ 600 ≠ 0 by decide +kernel)
  have h2 := Int.emod_lt_of_pos x (show (0 : Int) < 10 ^ 600 by decide +kernel)
  have h3 := Int.emod_nonneg (y + z + 97)
    (show (2305843009213693921 : Int) ≠ 0 by decide)
  have h4 := Int.emod_lt_of_pos (y + z + 97)
    (show (0 : Int) < 2305843009213693921 by decide)
  refine ⟨_, _, rfl, ?_, ?_, h3, by omega⟩
  · cases b
    · rw [if_neg Bool.false_ne_true, Int.mul_zero]; decide
    · rw [if_pos rfl, Int.mul_one]; exact h1
  · cases b
    · rw [if_neg Bool.false_ne_true, Int.mul_zero]; decide +kernel
    · rw [if_pos rfl, Int.mul_one]; exact h2
theorem take_base {s c d : Int} (s1 : 0 ≤ s) (s2 : s < 2 ^ 61) (c1 : 0 ≤ c)
    (c2 : c ≤ 10000000) (d1 : 0 ≤ d) (d2 : d ≤ 10000000) :
    (s + 7919 * c * d + 31).natAbs < 2 ^ 64 := by
  have h1 : 7919 * c * d ≤ 7919 * 10000000 * 10000000 :=
    Int.mul_le_mul (by omega) d2 d1 (by omega)
  have h2 : 0 ≤ 7919 * c * d := Int.mul_nonneg (by omega) d1
  omega
theorem dints_append (as bs : List Int) :
    dints as ++ dints bs = dints (as ++ bs) := (List.map_append ..).symm
theorem dints_length (as : List Int) : (dints as).length = as.length :=
  List.length_map ..
def showsB (d : D) : Bool :=
  itmB 100 2000 d && (!d.py.hasDict || d.noLst)
theorem Shows.of {d : D} (h : showsB d = true) : Shows d := by
  unfold showsB at h
  rw [Bool.and_eq_true] at h
  refine (Itm.of h.1).shows (by omega) (by omega) fun z => ?_
  rw [z] at h
  simpa using h.2
def uints : List D → List Int
  | .int i :: r => i :: uints r
  | _ => []
theorem uints_dints (ns : List Int) : uints (dints ns) = ns := by
  induction ns with
  | nil => rfl
  | cons a r ih =>
    show a :: uints (dints r) = _
    rw [ih]
theorem dints_get {ns : List Int} {c : Nat} {d : D}
    (h : (dints ns)[c]? = some d) : ∃ n, ns[c]? = some n ∧ d = .int n := by
  rw [dints, List.getElem?_map] at h
  cases e : ns[c]? with
  | none => rw [e] at h; cases h
  | some t =>
    rw [e] at h
    exact ⟨t, rfl, (Option.some.inj h).symm⟩
theorem dints_rep (n : Nat) (x : Int) : dints (List.replicate n x) =
    List.replicate n (.int x) := List.map_replicate ..
def z3 (f : Int → Int → Int → Int) : List Int → List Int → List Int → List Int
  | x :: xs, y :: ys, z :: zs => f x y z :: z3 f xs ys zs
  | _, _, _ => []
theorem z3_len (f : Int → Int → Int → Int) : ∀ xs ys zs : List Int,
    (z3 f xs ys zs).length = min (min xs.length ys.length) zs.length
  | [], _, _ => by simp [z3]
  | _ :: _, [], _ => by simp [z3]
  | _ :: _, _ :: _, [] => by simp [z3]
  | x :: xs, y :: ys, z :: zs => by
    rw [z3, List.length_cons, z3_len f xs ys zs]
    simp only [List.length_cons]
    omega
theorem z3_get {f : Int → Int → Int → Int} : ∀ {xs ys zs : List Int} {c : Nat}
    {x y z : Int}, xs[c]? = some x → ys[c]? = some y → zs[c]? = some z →
    (z3 f xs ys zs)[c]? = some (f x y z)
  | [], _, _, _, _, _, _, h, _, _ => by simp at h
  | _ :: _, [], _, _, _, _, _, _, h, _ => by simp at h
  | _ :: _, _ :: _, [], _, _, _, _, _, _, h => by simp at h
  | a :: xs, b :: ys, d :: zs, 0, x, y, z, h1, h2, h3 => by
    simp at h1 h2 h3
    subst h1 h2 h3
    rfl
  | a :: xs, b :: ys, d :: zs, c + 1, x, y, z, h1, h2, h3 => by
    simp only [List.getElem?_cons_succ] at h1 h2 h3
    rw [z3, List.getElem?_cons_succ]
    exact z3_get h1 h2 h3
theorem zw_get {f : Int → Int → Int} {xs ys : List Int} {c : Nat} {x y : Int}
    (h1 : xs[c]? = some x) (h2 : ys[c]? = some y) :
    (List.zipWith f xs ys)[c]? = some (f x y) := by
  rw [List.getElem?_zipWith, h1, h2]
theorem take_snoc {α : Type} {xs : List α} {c : Nat} {x : α}
    (h : xs[c]? = some x) : xs.take (c + 1) = xs.take c ++ [x] := by
  rw [List.take_add_one, h]; rfl
theorem dints_snoc (xs : List Int) (x : Int) :
    dints xs ++ [D.int x] = dints (xs ++ [x]) := dints_append xs [x]
/-- one of two of the same length has an item where the other has -/
theorem get_of_len {α β : Type} {xs : List α} {ys : List β} {c : Nat} {x : α}
    (h : xs.length ≤ ys.length) (hx : xs[c]? = some x) :
    ∃ y, ys[c]? = some y := by
  have := (List.getElem?_eq_some_iff.mp hx).1
  exact ⟨ys[c]'(by omega), List.getElem?_eq_getElem _⟩
theorem ext_of_get {α : Type} {xs ys : List α} (hl : xs.length = ys.length)
    (h : ∀ (c : Nat) x y, xs[c]? = some x → ys[c]? = some y → x = y) : xs = ys := by
  apply List.ext_getElem hl
  intro c h1 h2
  exact h c _ _ (List.getElem?_eq_getElem h1) (List.getElem?_eq_getElem h2)
section
variable {K : PySem.W.Frag} {l : Option Addr} {ρ : Ro} {m : Nat}
variable {Φ : Nat → D → Prop} {te tl : TE} {tA : TA}
/-- a row of numbers, made of three rows item by item -/
theorem e_lcZ3i {f : Int → Int → Int → Int} {i j k : Nat}
    (hi : ρ[i]? = some none) (hj : ρ[j]? = some none)
    (hk : ρ[k]? = some none) (hij : i ≠ j) (hik : i ≠ k) (hjk : j ≠ k)
    (h : AvC K l tA ρ m fun m1 as => ∃ xs ys zs : List Int,
      as = [.tup (dints xs), .tup (dints ys), .tup (dints zs)] ∧
      xs.length ≤ 50000 ∧
      (∀ (c : Nat) x y z, xs[c]? = some x → ys[c]? = some y → zs[c]? = some z →
        EvC K l te (((ρ.set i (some (.dat (.int x)))).set j
          (some (.dat (.int y)))).set k (some (.dat (.int z)))) m1
          fun n2 d => n2 = m1 ∧ d = .int (f x y z)) ∧
      Φ m1 (.lst (dints (z3 f xs ys zs)))) :
    EvC K l (tLc (iZip3 K tA) (g3 K i j k) tYes te [i, j, k]) ρ m Φ := by
  refine e_lcZ3 hi hj hk hij hik hjk (a_imp h fun m1 as q => ?_)
  obtain ⟨xs, ys, zs, rfl, hl, hb, hq⟩ := q
  refine ⟨_, _, _, rfl, by rw [dints_length]; exact hl, fun c n acc =>
    n = m1 ∧ acc = dints ((z3 f xs ys zs).take c), ⟨rfl, rfl⟩, ?_, ?_⟩
  · intro c n acc d e g h1 h2 h3 hI _
    obtain ⟨rfl, rfl⟩ := hI
    obtain ⟨x, e1, rfl⟩ := dints_get h1
    obtain ⟨y, e2, rfl⟩ := dints_get h2
    obtain ⟨z, e3, rfl⟩ := dints_get h3
    refine e_imp (hb c x y z e1 e2 e3) fun n2 d q => ?_
    obtain ⟨rfl, rfl⟩ := q
    exact ⟨rfl, by rw [take_snoc (z3_get e1 e2 e3), dints_snoc]⟩
  · intro n acc _ hI
    obtain ⟨rfl, rfl⟩ := hI
    rw [dints_length, dints_length, dints_length, ← z3_len f,
      List.take_length]
    exact hq
end
def MsP (ms : List Int) : Prop :=
  1 ≤ ms.length ∧ ms.length ≤ 3 ∧ ∀ m ∈ ms, 2 ≤ m ∧ m ≤ 5
def msB (ms : List Int) : Bool := decide (1 ≤ ms.length) &&
  decide (ms.length ≤ 3) && ms.all fun m => decide (2 ≤ m) && decide (m ≤ 5)
theorem MsP.of {ms : List Int} (h : msB ms = true) : MsP ms := by
  unfold msB at h
  simp only [Bool.and_eq_true, decide_eq_true_eq, List.all_eq_true] at h
  exact ⟨h.1.1, h.1.2, h.2⟩
def TieP (ms t : List Int) : Prop := t.length = ms.length ∧
  ∀ (c : Nat) (m x : Int), ms[c]? = some m → t[c]? = some x → 0 ≤ x ∧ x < m
theorem num_int {i : Int} (h1 : -10000 ≤ i) (h2 : i ≤ 10000) :
    Num 0 15 (.int i) := ⟨itm_int h1 h2, rfl⟩
theorem num_row {ns : List Int} {k : Nat} (hl : ns.length ≤ k)
    (h : ∀ n ∈ ns, -10000 ≤ n ∧ n ≤ 10000) :
    Num 1 (16 * k) (.tup (dints ns)) := by
  refine (Num.tup (k := 0) (w := 15) fun x hx => ?_).up (by omega) ?_
  · obtain ⟨n, hn, rfl⟩ := List.mem_map.mp hx
    exact num_int (h n hn).1 (h n hn).2
  · rw [dints_length]
    exact Nat.mul_le_mul_left 16 hl
theorem MsP.num {ms : List Int} (h : MsP ms) :
    Num 1 48 (.tup (dints ms)) :=
  num_row (k := 3) h.2.1 fun n hn => by have := h.2.2 n hn; omega
theorem TieP.bd {ms t : List Int} (h : TieP ms t) (hm : MsP ms) :
    ∀ x ∈ t, 0 ≤ x ∧ x ≤ 4 := by
  intro x hx
  obtain ⟨c, hc⟩ := List.getElem?_of_mem hx
  obtain ⟨m, e⟩ := get_of_len (Nat.le_of_eq h.1) hc
  have h1 := h.2 c m x e hc
  have h2 := hm.2.2 m (List.mem_of_getElem? e)
  omega
theorem TieP.num {ms t : List Int} (h : TieP ms t) (hm : MsP ms) :
    Num 1 48 (.tup (dints t)) :=
  num_row (k := 3) (by rw [h.1]; exact hm.2.1) fun n hn => by
    have := h.bd hm n hn; omega
def preMs1 (ds : List D) : Prop := ∃ ms, ds = [.tup (dints ms)] ∧ MsP ms
def fNou : List D → D
  | [.tup xs] => .tup (dints (List.replicate xs.length 0))
  | _ => .non
theorem tieP_of {ms t : List Int} (hm : MsP ms) (hl : t.length = ms.length)
    (h : ∀ (c : Nat) m x, ms[c]? = some m → t[c]? = some x → ∃ y, x = y % m) :
    TieP ms t := by
  refine ⟨hl, fun c m x h1 h2 => ?_⟩
  obtain ⟨y, rfl⟩ := h c m x h1 h2
  have := hm.2.2 m (List.mem_of_getElem? h1)
  exact ⟨Int.emod_nonneg _ (by omega), Int.emod_lt_of_pos _ (by omega)⟩
theorem rep_tie {ms : List Int} (hm : MsP ms) :
    TieP ms (List.replicate ms.length 0) := by
  refine ⟨by simp, fun c m x h1 h2 => ?_⟩
  have := hm.2.2 m (List.mem_of_getElem? h1)
  rw [List.getElem?_replicate] at h2
  split at h2
  · cases h2; omega
  · cases h2
def preTT (ds : List D) : Prop := ∃ ms a b,
  ds = [.tup (dints ms), .tup (dints a), .tup (dints b)] ∧ MsP ms ∧
  TieP ms a ∧ TieP ms b
def sumF (ms a b : List Int) : List Int :=
  z3 (fun x y m => (x + y) % m) a b ms
def lessF (ms a b : List Int) : List Int :=
  z3 (fun x y m => (x - y) % m) a b ms
def fSum : List D → D
  | [.tup ms, .tup a, .tup b] => .tup (dints (sumF (uints ms) (uints a) (uints b)))
  | _ => .non
def fLess : List D → D
  | [.tup ms, .tup a, .tup b] => .tup (dints (lessF (uints ms) (uints a) (uints b)))
  | _ => .non
theorem sum_tie {ms a b : List Int} (hm : MsP ms) (ha : TieP ms a)
    (hb : TieP ms b) : TieP ms (sumF ms a b) := by
  have h1 := ha.1
  have h2 := hb.1
  have hl : (sumF ms a b).length = ms.length := by
    unfold sumF; rw [z3_len]; omega
  refine tieP_of hm hl fun c m x em ex => ?_
  obtain ⟨p, ep⟩ := get_of_len (ys := a) (by omega) em
  obtain ⟨q, eq⟩ := get_of_len (ys := b) (by omega) em
  unfold sumF at ex
  rw [z3_get ep eq em] at ex
  exact ⟨_, (Option.some.inj ex).symm⟩
theorem less_tie {ms a b : List Int} (hm : MsP ms) (ha : TieP ms a)
    (hb : TieP ms b) : TieP ms (lessF ms a b) := by
  have h1 := ha.1
  have h2 := hb.1
  have hl : (lessF ms a b).length = ms.length := by
    unfold lessF; rw [z3_len]; omega
  refine tieP_of hm hl fun c m x em ex => ?_
  obtain ⟨p, ep⟩ := get_of_len (ys := a) (by omega) em
  obtain ⟨q, eq⟩ := get_of_len (ys := b) (by omega) em
  unfold lessF at ex
  rw [z3_get ep eq em] at ex
  exact ⟨_, (Option.some.inj ex).symm⟩
def timesF (ms t : List Int) (n : Int) : List Int :=
  List.zipWith (fun x m => x * n % m) t ms
theorem times_len {ms t : List Int} (h : TieP ms t) (n : Int) :
    (timesF ms t n).length = ms.length := by
  unfold timesF
  rw [List.length_zipWith, h.1, Nat.min_self]
theorem times_get {ms t : List Int} {n m x : Int} {c : Nat}
    (h1 : ms[c]? = some m) (h2 : t[c]? = some x) :
    (timesF ms t n)[c]? = some (x * n % m) := zw_get h2 h1
theorem times_tie {ms t : List Int} (hm : MsP ms) (h : TieP ms t) (n : Int) :
    TieP ms (timesF ms t n) := by
  refine tieP_of hm (times_len h n) fun c m x h1 h2 => ?_
  obtain ⟨y, e⟩ := get_of_len (Nat.le_of_eq h.1.symm) h1
  rw [times_get h1 e] at h2
  exact ⟨_, (Option.some.inj h2).symm⟩
def ordFrom (p : Nat → Bool) : Nat → Nat → Nat
  | 0, k => k
  | f + 1, k => if p k = true then k else ordFrom p f (k + 1)
def zeroAt (ms t : List Int) (k : Nat) : Bool :=
  timesF ms t k == List.replicate ms.length 0
def ordF (ms t : List Int) : Nat := ordFrom (zeroAt ms t) 60 1
theorem zero60 {ms t : List Int} (hm : MsP ms) (h : TieP ms t) :
    zeroAt ms t 60 = true := by
  unfold zeroAt
  rw [beq_iff_eq]
  refine ext_of_get (by rw [times_len h]; simp) fun c x y h1 h2 => ?_
  obtain ⟨m, em⟩ := get_of_len (Nat.le_of_eq (times_len h _)) h1
  obtain ⟨z, ez⟩ := get_of_len (Nat.le_of_eq h.1.symm) em
  rw [times_get em ez] at h1
  rw [List.getElem?_replicate] at h2
  split at h2
  · cases h2
    cases h1
    have := hm.2.2 m (List.mem_of_getElem? em)
    have : m = 2 ∨ m = 3 ∨ m = 4 ∨ m = 5 := by omega
    rcases this with rfl | rfl | rfl | rfl <;> omega
  · cases h2
theorem ordFrom_bd (p : Nat → Bool) : ∀ f k, k ≤ ordFrom p f k ∧
    ordFrom p f k ≤ k + f
  | 0, k => by rw [ordFrom]; omega
  | f + 1, k => by
    rw [ordFrom]
    split
    · omega
    · have := ordFrom_bd p f (k + 1)
      omega
theorem ord_bd (ms t : List Int) : 1 ≤ ordF ms t ∧ ordF ms t ≤ 61 := by
  have := ordFrom_bd (zeroAt ms t) 60 1
  exact ⟨this.1, this.2⟩
def MsQ (ms : List Int) : Prop := MsP ms ∧ D.prod (dints ms) ≤ 30
def preSc (m : Nat) (ds : List D) : Prop := m < 9000000 ∧ ds = []
def psiSc (ds : List D) (m m' : Nat) (d : D) : Prop :=
  m' ≤ m + 1 ∧ ∃ ms, MsQ ms ∧ d = .tup (dints ms)
def preKn (m : Nat) (ds : List D) : Prop := m < 8000000 ∧ preMs1 ds
def psiKn (ds : List D) (m m' : Nat) (d : D) : Prop :=
  m' ≤ m + 3 ∧ ∃ ms t, ds = [.tup (dints ms)] ∧ TieP ms t ∧ d = .tup (dints t)
theorem scales14 {d : D} (h : d ∈ ([.tup (dints [2]), .tup (dints [4, 2]),
    .tup (dints [3]), .tup (dints [4]), .tup (dints [5]), .tup (dints [2, 2]),
    .tup (dints [2, 4, 3]), .tup (dints [3, 2]), .tup (dints [5, 5]),
    .tup (dints [2, 2, 2]), .tup (dints [3, 3]), .tup (dints [4, 5]),
    .tup (dints [2, 3, 5]), .tup (dints [5, 3, 2])] : List D)) :
    ∃ ms, MsP ms ∧ D.prod (dints ms) ≤ 30 ∧ d = .tup (dints ms) := by
  have key : ∀ ms : List Int, msB ms = true → D.prod (dints ms) ≤ 30 →
      ∃ ms', MsP ms' ∧ D.prod (dints ms') ≤ 30 ∧ D.tup (dints ms) = .tup (dints ms') :=
    fun ms h1 h2 => ⟨ms, MsP.of h1, h2, rfl⟩
  simp only [List.mem_cons, List.not_mem_nil, or_false] at h
  rcases h with rfl | rfl | rfl | rfl | rfl | rfl | rfl | rfl | rfl | rfl | rfl | rfl | rfl | rfl <;>
    exact key _ rfl (by decide)
def HuP (hs : List Int) : Prop :=
  2 ≤ hs.length ∧ hs.length ≤ 16 ∧ ∀ n ∈ hs, 0 ≤ n ∧ n ≤ 9
def D.huesB : D → Bool
  | .tup xs => decide (2 ≤ xs.length) && decide (xs.length ≤ 16) &&
      xs.all (D.within 0 9)
  | _ => false
def fHue : List D → D
  | [d] => .bl (D.within 0 9 d)
  | _ => .non
def fHues : List D → D
  | [d] => .bl (D.huesB d)
  | _ => .non
abbrev frD (C : Addr) (ms hs : List Int) : D :=
  .ins C ["measure", "hues"] [.tup (dints ms), .tup (dints hs)]
def preFrame (ds : List D) : Prop := ∃ ms hs,
  ds = [.tup (dints ms), .tup (dints hs)] ∧ MsQ ms ∧ HuP hs
theorem within_all {ns : List Int} {a b : Int} (h : ∀ n ∈ ns, a ≤ n ∧ n ≤ b) :
    (dints ns).all (D.within a b) = true := by
  rw [dints, List.all_map, List.all_eq_true]
  intro n hn
  have := h n hn
  simp [D.within, this.1, this.2]
theorem meas_of {ms : List Int} (h : MsQ ms) :
    D.meas (.tup (dints ms)) = true := by
  rw [D.meas, within_all h.1.2.2, dints_length, decide_eq_true h.1.1,
    decide_eq_true h.1.2.1, decide_eq_true h.2]
  rfl
theorem hues_of {hs : List Int} (h : HuP hs) :
    D.huesB (.tup (dints hs)) = true := by
  rw [D.huesB, within_all h.2.2, dints_length, decide_eq_true h.1,
    decide_eq_true h.2.1]
  rfl
theorem plain_ints (ns : List Int) : (D.tup (dints ns)).plain = true := by
  rw [D.plain, plains_all, List.all_eq_true]
  intro x hx
  obtain ⟨n, _, rfl⟩ := List.mem_map.mp hx
  rfl
theorem HuP.num {hs : List Int} (h : HuP hs) :
    Num 1 256 (.tup (dints hs)) :=
  num_row (k := 16) h.2.1 fun n hn => by have := h.2.2 n hn; omega
abbrev dtab (T : List (List (List Int))) : D :=
  .tup (T.map fun r => .tup (r.map fun t => .tup (dints t)))
def TabP (ms : List Int) (n : Nat) (T : List (List (List Int))) : Prop :=
  T.length = n ∧ ∀ (i : Nat) r, T[i]? = some r → r.length = i ∧
    ∀ t ∈ r, TieP ms t
def dsub : D → Nat → Option D
  | .tup xs, n => xs[n]?
  | _, _ => none
theorem TabP.num {ms : List Int} {n : Nat} {T : List (List (List Int))}
    (hM : MsP ms) (hn : n ≤ 16) (h : TabP ms n T) :
    Num 3 16000 (dtab T) := by
  refine (Num.tup (k := 2) (w := 900) fun x hx => ?_).up (by omega) ?_
  · obtain ⟨r, hr, rfl⟩ := List.mem_map.mp hx
    obtain ⟨i, hi⟩ := List.getElem?_of_mem hr
    have h1 := h.2 i r hi
    have hi2 := (List.getElem?_eq_some_iff.mp hi).1
    refine (Num.tup (k := 1) (w := 48) fun y hy => ?_).up (by omega) ?_
    · obtain ⟨t, ht, rfl⟩ := List.mem_map.mp hy
      exact (h1.2 t ht).num hM
    · rw [List.length_map, h1.1]
      have := h.1
      omega
  · rw [List.length_map, h.1]
    omega
theorem TabP.at {ms : List Int} {n : Nat} {T : List (List (List Int))}
    (h : TabP ms n T) {i j : Nat} (hi : i < n) (hj : j < i) :
    ∃ r t, T[i]? = some r ∧ r[j]? = some t ∧ TieP ms t := by
  have hl := h.1
  obtain ⟨r, hr⟩ : ∃ r, T[i]? = some r := ⟨T[i]'(by omega), List.getElem?_eq_getElem _⟩
  have h1 := h.2 i r hr
  obtain ⟨t, ht⟩ : ∃ t, r[j]? = some t := ⟨r[j]'(by omega), List.getElem?_eq_getElem _⟩
  exact ⟨r, t, hr, ht, h1.2 t (List.mem_of_getElem? ht)⟩
theorem dtab_sub {T : List (List (List Int))} {i : Nat} {r : List (List Int)}
    (h : T[i]? = some r) : dsub (dtab T) i =
      some (.tup (r.map fun t => .tup (dints t))) := by
  rw [dtab, dsub, List.getElem?_map, h]; rfl
theorem drow_sub {r : List (List Int)} {j : Nat} {t : List Int}
    (h : r[j]? = some t) : dsub (D.tup (r.map fun t => .tup (dints t))) j =
      some (.tup (dints t)) := by
  rw [dsub, List.getElem?_map, h]; rfl
def mxI (i j : Int) : Int := if j > i then j else i
def mnI (i j : Int) : Int := if j < i then j else i
def preTab (ds : List D) : Prop := ∃ t i j r d, ds = [t, .int i, .int j] ∧
  0 ≤ i ∧ 0 ≤ j ∧ dsub t (mxI i j).toNat = some r ∧
  dsub r (mnI i j).toNat = some d
def tabAt (t : D) (i j : Int) : D :=
  ((dsub t (mxI i j).toNat).bind fun r => dsub r (mnI i j).toNat).getD .non
def fTab : List D → D
  | [t, .int i, .int j] => tabAt t i j
  | _ => .non
def negF (ms x : List Int) : List Int :=
  lessF ms (List.replicate ms.length 0) x
def preCol (m : Nat) (ds : List D) : Prop := m < 7000000 ∧ ∃ z : Int,
  ds = [.int z] ∧ 2 ≤ z ∧ z ≤ 16
def psiCol (ds : List D) (m m' : Nat) (d : D) : Prop :=
  m' ≤ m + 20 ∧ ∃ hs z, ds = [.int z] ∧ d = .tup (dints hs) ∧ HuP hs ∧
    (hs.length : Int) ≤ z
def preGrid (m : Nat) (ds : List D) : Prop := m < 7000000 ∧ ∃ ms n,
  ds = [.tup (dints ms), .int n] ∧ MsP ms ∧ 0 ≤ n ∧ n ≤ 16
def psiGrid (ds : List D) (m m' : Nat) (d : D) : Prop :=
  m' ≤ m + 2000 ∧ ∃ ms n T, ds = [.tup (dints ms), .int n] ∧
    TabP ms n.toNat T ∧ d = dtab T
theorem dints_inj {a b : List Int} (h : dints a = dints b) : a = b := by
  have := congrArg uints h
  rwa [uints_dints, uints_dints] at this
theorem tup_inj {a b : List Int} (h : D.tup (dints a) = .tup (dints b)) :
    a = b := dints_inj (D.tup.inj h)
abbrev dsays (S : List (List Int)) : D := .tup (S.map fun t => .tup (dints t))
def usays : D → List (List Int)
  | .tup xs => xs.map fun d => match d with
    | .tup ys => uints ys
    | _ => []
  | _ => []
theorem usays_dsays (S : List (List Int)) : usays (dsays S) = S := by
  rw [dsays, usays, List.map_map]
  conv => rhs; rw [← List.map_id S]
  apply List.map_congr_left
  intro t _
  exact uints_dints t
abbrev dplace (a : Nat) (S : List (List Int)) : D := .tup [.int a, dsays S]
structure PlP (ms : List Int) (n a : Nat) (S : List (List Int)) : Prop where
  lt : a < n
  len : S.length = n
  tie : ∀ t ∈ S, TieP ms t
  own : S[a]? = some (List.replicate ms.length 0)
theorem dsays_get {S : List (List Int)} {c : Nat} {t : List Int}
    (h : S[c]? = some t) :
    (S.map fun t => D.tup (dints t))[c]? = some (.tup (dints t)) := by
  rw [List.getElem?_map, h]; rfl
theorem says_get {S : List (List Int)} {n c : Nat} (hl : S.length = n)
    (hc : c < n) : ∃ t, S[c]? = some t :=
  ⟨S[c]'(by omega), List.getElem?_eq_getElem _⟩
theorem getD_of {S : List (List Int)} {c : Nat} {t : List Int}
    (h : S[c]? = some t) : S.getD c [] = t := by
  rw [List.getD_eq_getElem?_getD, h]; rfl
def preSpot (m : Nat) (ds : List D) : Prop := m < 6000000 ∧
  ∃ (ms : List Int) (n a : Nat), ds = [.tup (dints ms), .int n, .int a] ∧
    MsP ms ∧ a < n ∧ n ≤ 17
def psiSpot (ds : List D) (m m' : Nat) (d : D) : Prop := m' ≤ m + 60 ∧
  ∃ (ms : List Int) (n a : Nat) (S : List (List Int)),
    ds = [.tup (dints ms), .int n, .int a] ∧ PlP ms n a S ∧ d = dplace a S
theorem args3 {ms ms' : List Int} {n n' a a' : Nat}
    (h : [D.tup (dints ms), D.int n, D.int a] =
      [.tup (dints ms'), .int n', .int a']) : ms = ms' ∧ n = n' ∧ a = a' := by
  have h1 := tup_inj (List.cons.inj h).1
  have h2 := D.int.inj (List.cons.inj (List.cons.inj h).2).1
  have h3 := D.int.inj (List.cons.inj (List.cons.inj (List.cons.inj h).2).2).1
  exact ⟨h1, by omega, by omega⟩
def preLaw0 (ds : List D) : Prop := ∃ ns, ds = [.scr ns]
theorem num_place {ms : List Int} {n a : Nat} {S : List (List Int)}
    (hM : MsP ms) (hn : n ≤ 17) (ha : a < n) (hl : S.length = n)
    (ht : ∀ t ∈ S, TieP ms t) : Num 3 1700 (dplace a S) := by
  have h1 : Num 2 833 (dsays S) := by
    refine (Num.tup (k := 1) (w := 48) fun x hx => ?_).up (by omega) ?_
    · obtain ⟨t, h, rfl⟩ := List.mem_map.mp hx
      exact (ht t h).num hM
    · rw [List.length_map]; omega
  refine (Num.tup (k := 2) (w := 833) fun x hx => ?_).up (by omega) (by simp)
  simp only [List.mem_cons, List.not_mem_nil, or_false] at hx
  rcases hx with rfl | rfl
  · exact (num_int (by omega) (by omega)).up (by omega) (by omega)
  · exact h1

theorem pNou {ms : List Int} (hM : MsP ms) : preMs1 [.tup (dints ms)] :=
  ⟨ms, rfl, hM⟩
theorem fNou_is (ms : List Int) : fNou [.tup (dints ms)] =
    .tup (dints (List.replicate ms.length 0)) := by rw [fNou, dints_length]
theorem pTT {ms a b : List Int} (hM : MsP ms) (ha : TieP ms a)
    (hb : TieP ms b) : preTT [.tup (dints ms), .tup (dints a), .tup (dints b)] :=
  ⟨ms, a, b, rfl, hM, ha, hb⟩
theorem fSum_is (ms a b : List Int) :
    fSum [.tup (dints ms), .tup (dints a), .tup (dints b)] =
      .tup (dints (sumF ms a b)) := by
  rw [fSum, uints_dints, uints_dints, uints_dints]
theorem fLess_is (ms a b : List Int) :
    fLess [.tup (dints ms), .tup (dints a), .tup (dints b)] =
      .tup (dints (lessF ms a b)) := by
  rw [fLess, uints_dints, uints_dints, uints_dints]
section
variable {K : PySem.W.Frag} {l : Option Addr} {ρ : Ro} {m : Nat}
variable {Φ : Nat → D → Prop}
theorem v_rep0 {ms : List Int} (hM : MsP ms)
    (q : Φ m (.tup (dints (List.replicate ms.length 0)))) :
    VvC K l ρ (fun vs H Q => ∃ x y, vs = [x, y] ∧ rRepA K x y H Q)
      [.tup [.int 0], .int ((dints ms).length : Int)] m Φ := by
  have h3 := hM.2.1
  refine v_repT (by omega) (by rw [dints_length]; omega) (by simp) ?_
  rw [Int.toNat_natCast, List.flatten_replicate_singleton, dints_length, ← dints_rep]
  exact q
end
theorem PlP.num {ms : List Int} {n a : Nat} {S : List (List Int)}
    (h : PlP ms n a S) (hM : MsP ms) (hn : n ≤ 17) : Num 3 1700 (dplace a S) :=
  num_place hM hn h.lt h.len h.tie
theorem map_dints {ys : List D} {P : Nat → List Int → Prop}
    (h : ∀ (i : Nat) y, ys[i]? = some y → ∃ t, y = D.tup (dints t) ∧ P i t) :
    ∃ S : List (List Int), ys = (S.map fun t => D.tup (dints t)) ∧
      ∀ (i : Nat) t, S[i]? = some t → P i t := dmap_of h

theorem cut_take (xs : List D) (k : Nat) :
    Wt.cutD xs none (some (k : Int)) = xs.take k := by
  unfold Wt.cutD
  rw [HT.sIx_none, HT.sIx_nat, List.drop_zero, Nat.sub_zero]
  rcases Nat.le_total k xs.length with h | h
  · rw [Nat.min_eq_left h]
  · rw [Nat.min_eq_right h, List.take_length, List.take_of_length_le h]
theorem cut_drop (xs : List D) (k : Nat) :
    Wt.cutD xs (some (k : Int)) none = xs.drop k := by
  unfold Wt.cutD
  rw [HT.sIx_none, HT.sIx_nat]
  rcases Nat.le_total k xs.length with h | h
  · rw [Nat.min_eq_left h, List.take_of_length_le (by rw [List.length_drop]; omega)]
  · rw [Nat.min_eq_right h, Nat.sub_self, List.take_zero, List.drop_eq_nil_of_le h]

section
variable {Ψ : Nat → D → Prop} {m : Nat}
theorem g_take {n : Nat} (hm : m < 10000000) (hn : 0 < n) (hn2 : n < 1000000000)
    (h : ∀ (m2 r : Nat), m2 ≤ m + 1 → r < n → Ψ m2 (.int r)) :
    preTake m [.int n] ∧ ∀ m2 d, psiTake [.int n] m m2 d → Ψ m2 d := by
  refine ⟨⟨hm, n, rfl, by omega, takeB_of (by omega)⟩, fun m2 d q => ?_⟩
  obtain ⟨h1, n2, r, e, rfl, h2, h3⟩ := q
  have e2 := D.int.inj (List.cons.inj e).1
  have := h m2 r.toNat h1 (by omega)
  rwa [Int.toNat_of_nonneg h2] at this
theorem g_of {c : D} {xs : List D} (hm : m < 10000000) (hc : c.items = some xs)
    (hx : xs ≠ []) (hl : xs.length < 1000000)
    (h : ∀ (m2 : Nat) d, m2 ≤ m + 1 → d ∈ xs → Ψ m2 d) :
    preOf m [c] ∧ ∀ m2 d, psiOf [c] m m2 d → Ψ m2 d := by
  refine ⟨⟨hm, c, xs, rfl, hc, hx, hl⟩, fun m2 d q => ?_⟩
  obtain ⟨h1, c2, ys, e, h2, h3⟩ := q
  cases (List.cons.inj e).1
  rw [hc] at h2
  cases h2
  exact h m2 d h1 h3
theorem g_scale (hm : m < 9000000)
    (h : ∀ (m2 : Nat) ms, m2 ≤ m + 1 → MsQ ms → Ψ m2 (.tup (dints ms))) :
    preSc m [] ∧ ∀ m2 d, psiSc [] m m2 d → Ψ m2 d := by
  refine ⟨⟨hm, rfl⟩, fun m2 d q => ?_⟩
  obtain ⟨h1, ms, h2, rfl⟩ := q
  exact h m2 ms h1 h2
theorem g_knot {ms : List Int} (hm : m < 8000000) (hM : MsP ms)
    (h : ∀ (m2 : Nat) t, m2 ≤ m + 3 → TieP ms t → Ψ m2 (.tup (dints t))) :
    preKn m [.tup (dints ms)] ∧ ∀ m2 d, psiKn [.tup (dints ms)] m m2 d → Ψ m2 d := by
  refine ⟨⟨hm, ms, rfl, hM⟩, fun m2 d q => ?_⟩
  obtain ⟨h1, ms2, t, e, ht, rfl⟩ := q
  cases tup_inj (List.cons.inj e).1
  exact h m2 t h1 ht
theorem g_col {z : Int} (hm : m < 7000000) (h1 : 2 ≤ z) (h2 : z ≤ 16)
    (h : ∀ (m2 : Nat) hs, m2 ≤ m + 20 → HuP hs → (hs.length : Int) ≤ z →
      Ψ m2 (.tup (dints hs))) :
    preCol m [.int z] ∧ ∀ m2 d, psiCol [.int z] m m2 d → Ψ m2 d := by
  refine ⟨⟨hm, z, rfl, h1, h2⟩, fun m2 d q => ?_⟩
  obtain ⟨q1, hs, z2, e, rfl, q2, q3⟩ := q
  cases (List.cons.inj e).1
  exact h m2 hs q1 q2 q3
theorem g_grid {ms : List Int} {n : Nat} (hm : m < 7000000) (hM : MsP ms)
    (hn : n ≤ 16)
    (h : ∀ (m2 : Nat) T, m2 ≤ m + 2000 → TabP ms n T → Ψ m2 (dtab T)) :
    preGrid m [.tup (dints ms), .int n] ∧
      ∀ m2 d, psiGrid [.tup (dints ms), .int n] m m2 d → Ψ m2 d := by
  refine ⟨⟨hm, ms, n, rfl, hM, by omega, by omega⟩, fun m2 d q => ?_⟩
  obtain ⟨q1, ms2, n2, T, e, q2, rfl⟩ := q
  cases tup_inj (List.cons.inj e).1
  cases D.int.inj (List.cons.inj (List.cons.inj e).2).1
  rw [Int.toNat_natCast] at q2
  exact h m2 T q1 q2
theorem g_spot {ms : List Int} {n a : Nat} (hm : m < 6000000) (hM : MsP ms)
    (ha : a < n) (hn : n ≤ 17)
    (h : ∀ (m2 : Nat) S, m2 ≤ m + 60 → PlP ms n a S → Ψ m2 (dplace a S)) :
    preSpot m [.tup (dints ms), .int n, .int a] ∧
      ∀ m2 d, psiSpot [.tup (dints ms), .int n, .int a] m m2 d → Ψ m2 d := by
  refine ⟨⟨hm, ms, n, a, rfl, hM, ha, hn⟩, fun m2 d q => ?_⟩
  obtain ⟨q1, ms2, n2, a2, S, e, q2, rfl⟩ := q
  obtain ⟨rfl, rfl, rfl⟩ := args3 e
  exact h m2 S q1 q2
end

def preStem (C : Addr) (ds : List D) : Prop := ∃ ms hs, ds = [frD C ms hs]
def fStem : List D → D
  | [.ins _ _ [_, .tup hs]] => .int hs.length
  | _ => .non
theorem pStem {C : Addr} {ms hs : List Int} : preStem C [frD C ms hs] :=
  ⟨ms, hs, rfl⟩
theorem fStem_is (C : Addr) (ms hs : List Int) :
    fStem [frD C ms hs] = .int hs.length := by
  show D.int ((dints hs).length : Int) = _
  rw [dints_length]
def utab : D → List (List (List Int))
  | .tup rs => rs.map usays
  | _ => []
theorem utab_dtab (T : List (List (List Int))) : utab (dtab T) = T := by
  rw [dtab, utab, List.map_map]
  conv => rhs; rw [← List.map_id T]
  apply List.map_congr_left
  intro r _
  exact usays_dsays r
abbrev Spot := Nat × List (List Int)
abbrev dspot (p : Spot) : D := dplace p.1 p.2
def uspot : D → Spot
  | .tup [.int a, s] => (a.toNat, usays s)
  | _ => (0, [])
theorem uspot_dspot (p : Spot) : uspot (dspot p) = p := by
  show ((p.1 : Int).toNat, usays (dsays p.2)) = p
  rw [usays_dsays, Int.toNat_natCast]
def LotP (ms : List Int) (n : Nat) (L : List Spot) : Prop := L.length = n ∧
  ∀ (i : Nat) p, L[i]? = some p → p.1 = i ∧ PlP ms n i p.2
abbrev zt (ms : List Int) : List Int := List.replicate ms.length 0
def standP (ms : List Int) (T : List (List (List Int))) : List Spot :=
  T.mapIdx fun i r => (i, r ++ List.replicate (T.length - i) (zt ms))
def sayAt (L : List Spot) (i j : Nat) : List Int :=
  ((L.getD i (0, [])).2).getD j []
theorem LotP.at {ms : List Int} {n i : Nat} {L : List Spot} (h : LotP ms n L)
    (hi : i < n) : ∃ S, L[i]? = some (i, S) ∧ PlP ms n i S := by
  have hl := h.1
  obtain ⟨p, hp⟩ : ∃ p, L[i]? = some p := ⟨L[i]'(by omega), List.getElem?_eq_getElem _⟩
  obtain ⟨e, h2⟩ := h.2 i p hp
  refine ⟨p.2, ?_, h2⟩
  rw [hp, ← e]
theorem sayAt_of {L : List Spot} {i j a : Nat} {S : List (List Int)} {t : List Int}
    (h1 : L[i]? = some (a, S)) (h2 : S[j]? = some t) : sayAt L i j = t := by
  have e : L.getD i (0, []) = (a, S) := by
    rw [List.getD_eq_getElem?_getD, h1]; rfl
  unfold sayAt
  rw [e]
  exact getD_of h2
theorem less_zero {ms x : List Int} (hM : MsP ms) (hx : TieP ms x) :
    lessF ms x (zt ms) = x := by
  have h1 := hx.1
  refine ext_of_get (by rw [(less_tie hM hx (rep_tie hM)).1, h1]) fun c a b e1 e2 => ?_
  obtain ⟨m, em⟩ := get_of_len (ys := ms) (by omega) e2
  have e0 : (zt ms)[c]? = some 0 := by
    rw [List.getElem?_replicate, if_pos (List.getElem?_eq_some_iff.mp em).1]
  rw [show (lessF ms x (zt ms))[c]? = some ((b - 0) % m) from z3_get e2 e0 em] at e1
  cases e1
  have := hx.2 c m b em e2
  rw [Int.sub_zero]
  exact Int.emod_eq_of_lt this.1 this.2
theorem stand_get {ms : List Int} {T : List (List (List Int))} {i : Nat}
    {r : List (List Int)} (h : T[i]? = some r) :
    (standP ms T)[i]? = some (i, r ++ List.replicate (T.length - i) (zt ms)) := by
  unfold standP
  rw [List.getElem?_mapIdx, h]; rfl
theorem stand_less {ms : List Int} {T : List (List (List Int))} {i j : Nat}
    {r : List (List Int)} {t : List Int} (h : T[i]? = some r)
    (hj : r[j]? = some t) : sayAt (standP ms T) i j = t :=
  sayAt_of (stand_get h) (by
    rw [List.getElem?_append_left (List.getElem?_eq_some_iff.mp hj).1]; exact hj)
theorem stand_more {ms : List Int} {n : Nat} {T : List (List (List Int))}
    {i j : Nat} (h : TabP ms n T) (hi : i < n) (hij : i ≤ j) (hj : j < n) :
    sayAt (standP ms T) i j = zt ms := by
  have hl := h.1
  obtain ⟨r, hr⟩ : ∃ r, T[i]? = some r := ⟨T[i]'(by omega), List.getElem?_eq_getElem _⟩
  have h1 := (h.2 i r hr).1
  refine sayAt_of (stand_get hr) ?_
  rw [List.getElem?_append_right (by omega), List.getElem?_replicate, if_pos (by omega)]
theorem LotP.all {ms : List Int} {n : Nat} {L : List Spot} (h : LotP ms n L) :
    ∀ p ∈ L, PlP ms n p.1 p.2 := by
  intro p hp
  obtain ⟨i, hi⟩ := List.getElem?_of_mem hp
  obtain ⟨e, h2⟩ := h.2 i p hi
  rw [e]; exact h2

def tt (T : List (List (List Int))) (i j : Nat) : List Int :=
  (T.getD i []).getD j []
def tabT (T : List (List (List Int))) (i j : Nat) : List Int :=
  if j < i then tt T i j else tt T j i
def webT (ms : List Int) (T : List (List (List Int))) (i j : Nat) : List Int :=
  if j < i then tt T i j else negF ms (tt T j i)
theorem tt_of {T : List (List (List Int))} {i j : Nat} {r : List (List Int)}
    {t : List Int} (h1 : T[i]? = some r) (h2 : r[j]? = some t) : tt T i j = t := by
  have e : T.getD i [] = r := by rw [List.getD_eq_getElem?_getD, h1]; rfl
  unfold tt
  rw [e]
  exact getD_of h2
theorem tt_tie {ms : List Int} {n : Nat} {T : List (List (List Int))} {i j : Nat}
    (h : TabP ms n T) (hi : i < n) (hj : j < i) : TieP ms (tt T i j) := by
  obtain ⟨r, t, e1, e2, h3⟩ := h.at hi hj
  rw [tt_of e1 e2]; exact h3
theorem tabT_tie {ms : List Int} {n : Nat} {T : List (List (List Int))} {i j : Nat}
    (h : TabP ms n T) (hi : i < n) (hj : j < n) (hij : i ≠ j) : TieP ms (tabT T i j) := by
  unfold tabT
  split
  · exact tt_tie h hi (by omega)
  · exact tt_tie h hj (by omega)
theorem tabT_comm (T : List (List (List Int))) (i j : Nat) (h : i ≠ j) :
    tabT T i j = tabT T j i := by
  unfold tabT
  by_cases e : j < i
  · rw [if_pos e, if_neg (by omega)]
  · rw [if_neg e, if_pos (by omega)]
theorem tab_sub {ms : List Int} {n : Nat} {T : List (List (List Int))} {i j : Nat}
    (h : TabP ms n T) (hi : i < n) (hj : j < n) (hij : i ≠ j) :
    ∃ r, dsub (dtab T) (mxI i j).toNat = some r ∧
      dsub r (mnI i j).toNat = some (.tup (dints (tabT T i j))) := by
  by_cases e : j < i
  · obtain ⟨r, t, e1, e2, h3⟩ := h.at hi e
    refine ⟨.tup (r.map fun t => .tup (dints t)), ?_, ?_⟩
    · rw [show mxI i j = i by unfold mxI; split <;> omega, Int.toNat_natCast]
      exact dtab_sub e1
    · rw [show mnI i j = j by unfold mnI; split <;> omega, Int.toNat_natCast, tabT,
        if_pos e, tt_of e1 e2]
      exact drow_sub e2
  · obtain ⟨r, t, e1, e2, h3⟩ := h.at hj (j := i) (by omega)
    refine ⟨.tup (r.map fun t => .tup (dints t)), ?_, ?_⟩
    · rw [show mxI i j = j by unfold mxI; split <;> omega, Int.toNat_natCast]
      exact dtab_sub e1
    · rw [show mnI i j = i by unfold mnI; split <;> omega, Int.toNat_natCast, tabT,
        if_neg e, tt_of e1 e2]
      exact drow_sub e2
theorem pTab {ms : List Int} {n : Nat} {T : List (List (List Int))} {i j : Nat}
    (h : TabP ms n T) (hi : i < n) (hj : j < n) (hij : i ≠ j) :
    preTab [dtab T, .int i, .int j] := by
  obtain ⟨r, h1, h2⟩ := tab_sub h hi hj hij
  exact ⟨_, _, _, r, _, rfl, by omega, by omega, h1, h2⟩
theorem tabAt_is {ms : List Int} {n : Nat} {T : List (List (List Int))} {i j : Nat}
    (h : TabP ms n T) (hi : i < n) (hj : j < n) (hij : i ≠ j) :
    tabAt (dtab T) i j = .tup (dints (tabT T i j)) := by
  obtain ⟨r, h1, h2⟩ := tab_sub h hi hj hij
  unfold tabAt
  rw [h1]
  show (dsub r (mnI i j).toNat).getD .non = _
  rw [h2]
  rfl
theorem fTab_is {ms : List Int} {n : Nat} {T : List (List (List Int))} {i j : Nat}
    (h : TabP ms n T) (hi : i < n) (hj : j < n) (hij : i ≠ j) :
    fTab [dtab T, .int i, .int j] = .tup (dints (tabT T i j)) := tabAt_is h hi hj hij
theorem stand_web {ms : List Int} {n : Nat} {T : List (List (List Int))} {i j : Nat}
    (hM : MsP ms) (h : TabP ms n T) (hi : i < n) (hj : j < n) (hij : i ≠ j) :
    lessF ms (sayAt (standP ms T) i j) (sayAt (standP ms T) j i) = webT ms T i j := by
  unfold webT
  by_cases e : j < i
  · obtain ⟨r, t, e1, e2, h3⟩ := h.at hi e
    rw [if_pos e, stand_less e1 e2, stand_more h hj (by omega) hi, tt_of e1 e2]
    exact less_zero hM h3
  · obtain ⟨r, t, e1, e2, h3⟩ := h.at hj (j := i) (by omega)
    rw [if_neg e, stand_less e1 e2, stand_more h hi (by omega) hj, tt_of e1 e2]
    rfl

def constT (t : List Int) (n : Nat) : List (List (List Int)) :=
  (List.range n).map fun i => List.replicate i t
theorem const_tab {ms t : List Int} (h : TieP ms t) (n : Nat) :
    TabP ms n (constT t n) := by
  refine ⟨by simp [constT], fun i r e => ?_⟩
  unfold constT at e
  rw [List.getElem?_map] at e
  rcases Nat.lt_or_ge i n with z | z
  · rw [List.getElem?_range z] at e
    cases e
    exact ⟨by simp, fun u hu => by rw [List.eq_of_mem_replicate hu]; exact h⟩
  · rw [List.getElem?_eq_none (by simpa using z)] at e
    cases e

theorem tget {ms x : List Int} {c : Nat} {m : Int} (h : TieP ms x)
    (hm : ms[c]? = some m) : ∃ a, x[c]? = some a ∧ 0 ≤ a ∧ a < m := by
  obtain ⟨a, ea⟩ := get_of_len (ys := x) (by rw [h.1]; exact Nat.le_refl _) hm
  exact ⟨a, ea, h.2 c m a hm ea⟩
theorem tie_ext {ms x y : List Int} (hx : x.length = ms.length)
    (hy : y.length = ms.length)
    (h : ∀ (c : Nat) m, ms[c]? = some m → x[c]? = y[c]?) : x = y := by
  refine ext_of_get (by omega) fun c a b e1 e2 => ?_
  obtain ⟨m, em⟩ := get_of_len (ys := ms) (by omega) e1
  have := h c m em
  rw [e1, e2] at this
  exact Option.some.inj this
theorem sum_get {ms x y : List Int} {c : Nat} {m a b : Int}
    (em : ms[c]? = some m) (ea : x[c]? = some a) (eb : y[c]? = some b) :
    (sumF ms x y)[c]? = some ((a + b) % m) := z3_get ea eb em
theorem less_get {ms x y : List Int} {c : Nat} {m a b : Int}
    (em : ms[c]? = some m) (ea : x[c]? = some a) (eb : y[c]? = some b) :
    (lessF ms x y)[c]? = some ((a - b) % m) := z3_get ea eb em
theorem zt_get {ms : List Int} {c : Nat} {m : Int} (em : ms[c]? = some m) :
    (zt ms)[c]? = some 0 := by
  rw [List.getElem?_replicate, if_pos (List.getElem?_eq_some_iff.mp em).1]
theorem less_self_eq {ms x y : List Int} (hx : TieP ms x) (hy : TieP ms y)
    (h : ∀ (c : Nat) m a b, ms[c]? = some m → x[c]? = some a → y[c]? = some b →
      (a - b) % m = 0) : x = y := by
  refine tie_ext hx.1 hy.1 fun c m em => ?_
  obtain ⟨a, ea, a1, a2⟩ := tget hx em
  obtain ⟨b, eb, b1, b2⟩ := tget hy em
  have := h c m a b em ea eb
  rw [ea, eb]
  congr 1
  rcases Int.le_total b a with z | z
  · rw [Int.emod_eq_of_lt (by omega) (by omega)] at this
    omega
  · rw [← Int.add_emod_right] at this
    rcases Int.lt_or_eq_of_le z with z2 | z2
    · rw [Int.emod_eq_of_lt (by omega) (by omega)] at this
      omega
    · exact z2
theorem sum_cancel {ms x y t : List Int} (hM : MsP ms) (hx : TieP ms x)
    (hy : TieP ms y) (ht : TieP ms t) (h : sumF ms x t = sumF ms y t) : x = y := by
  refine less_self_eq hx hy fun c m a b em ea eb => ?_
  obtain ⟨d, ed, _⟩ := tget ht em
  have e1 := sum_get em ea ed
  have e2 := sum_get em eb ed
  rw [h] at e1
  have e3 := Option.some.inj (e1.symm.trans e2)
  rw [show a - b = (a + d) - (b + d) by omega, Int.sub_emod, e3, Int.sub_self]
  rfl
theorem sum_zero {ms x : List Int} (hM : MsP ms) (hx : TieP ms x) :
    sumF ms x (zt ms) = x := by
  refine tie_ext (sum_tie hM hx (rep_tie hM)).1 hx.1 fun c m em => ?_
  obtain ⟨a, ea, a1, a2⟩ := tget hx em
  rw [sum_get em ea (zt_get em), ea, Int.add_zero, Int.emod_eq_of_lt a1 a2]
abbrev dnats (L : List Nat) : List D := L.map fun (i : Nat) => D.int (i : Int)
def unats (xs : List D) : List Nat := (uints xs).map Int.toNat
theorem unats_dnats (L : List Nat) : unats (dnats L) = L := by
  have : dnats L = dints (L.map fun (i : Nat) => (i : Int)) := by
    rw [dints, List.map_map]; rfl
  rw [this, unats, uints_dints, List.map_map]
  conv => rhs; rw [← List.map_id L]
  apply List.map_congr_left
  intro i _
  show ((i : Int)).toNat = i
  omega
structure LeadP (hs : List Int) (L : List Nat) : Prop where
  len : L.length = hs.length
  nd : L.Nodup
  hue : ∀ (x y : Nat), L[x]? = some y → y < hs.length ∧ hs[y]? = hs[x]?
theorem nodup_len : ∀ (L M : List Nat), L.Nodup → (∀ x ∈ L, x ∈ M) →
    L.length ≤ M.length
  | [], _, _, _ => Nat.zero_le _
  | x :: L, M, hn, hs => by
    rw [List.nodup_cons] at hn
    have hx := hs x List.mem_cons_self
    have := nodup_len L (M.erase x) hn.2 fun y hy =>
      (List.mem_erase_of_ne (fun (e : y = x) => hn.1 (e ▸ hy))).mpr
        (hs y (List.mem_cons_of_mem _ hy))
    rw [List.length_erase_of_mem hx] at this
    have := List.length_pos_of_mem hx
    simp only [List.length_cons]
    omega
theorem LeadP.surj {hs : List Int} {L : List Nat} (h : LeadP hs L) {c : Nat}
    (hc : c < hs.length) : ∃ b, b < hs.length ∧ L[b]? = some c := by
  have hm : c ∈ L := by
    refine Classical.byContradiction fun hn => ?_
    have := nodup_len (c :: L) (List.range hs.length)
      (List.nodup_cons.mpr ⟨hn, h.nd⟩) fun x hx => by
        rw [List.mem_range]
        rcases List.mem_cons.mp hx with rfl | hx
        · exact hc
        · obtain ⟨i, hi⟩ := List.getElem?_of_mem hx
          exact (h.hue i x hi).1
    rw [List.length_cons, List.length_range, h.len] at this
    omega
  obtain ⟨b, hb⟩ := List.getElem?_of_mem hm
  have := (List.getElem?_eq_some_iff.mp hb).1
  exact ⟨b, by rw [← h.len]; exact this, hb⟩
theorem LeadP.at {hs : List Int} {L : List Nat} (h : LeadP hs L) {b : Nat}
    (hb : b < hs.length) : ∃ c, L[b]? = some c ∧ c < hs.length := by
  have hl := h.len
  obtain ⟨c, hc⟩ : ∃ c, L[b]? = some c := ⟨L[b]'(by omega), List.getElem?_eq_getElem _⟩
  exact ⟨c, hc, (h.hue b c hc).1⟩
theorem LeadP.inj {hs : List Int} {L : List Nat} (h : LeadP hs L) {a b c : Nat}
    (ha : L[a]? = some c) (hb : L[b]? = some c) : a = b :=
  (List.getElem?_inj (List.getElem?_eq_some_iff.mp ha).1 h.nd).mp (ha.trans hb.symm)
theorem dnats_get {L : List Nat} {b c : Nat} (h : L[b]? = some c) :
    (dnats L)[b]? = some (.int (c : Int)) := by
  rw [List.getElem?_map, h]; rfl
theorem natD_of {L : List Nat} {b c : Nat} (h : L[b]? = some c) : L.getD b 0 = c := by
  rw [List.getD_eq_getElem?_getD, h]; rfl
abbrev Turn := List Nat × List (List (List Int))
abbrev dturn (t : Turn) : D := .tup [.tup (dnats t.1), dtab t.2]
def uturn : D → Turn
  | .tup [.tup xs, t] => (unats xs, utab t)
  | _ => ([], [])
theorem uturn_dturn (t : Turn) : uturn (dturn t) = t := by
  show (unats (dnats t.1), utab (dtab t.2)) = t
  rw [unats_dnats, utab_dtab]
structure TurnP (ms hs : List Int) (t : Turn) : Prop where
  lead : LeadP hs t.1
  tab : TabP ms hs.length t.2
def ledF (ms : List Int) (L : List Nat) (T : List (List (List Int))) (a : Nat)
    (S : List (List Int)) (i : Nat) : List (List Int) :=
  (List.range i).foldl (fun acc b => if b = a then acc else
    acc.set (L.getD b 0) (sumF ms (S.getD b []) (tabT T a b)))
    (List.replicate L.length (zt ms))
def ledP (ms : List Int) (t : Turn) (p : Spot) : Spot :=
  (t.1.getD p.1 0, ledF ms t.1 t.2 p.1 p.2 p.2.length)
theorem ledF_succ (ms : List Int) (L : List Nat) (T : List (List (List Int)))
    (a : Nat) (S : List (List Int)) (i : Nat) : ledF ms L T a S (i + 1) =
      if i = a then ledF ms L T a S i else (ledF ms L T a S i).set (L.getD i 0)
        (sumF ms (S.getD i []) (tabT T a i)) := by
  unfold ledF
  rw [List.range_succ, List.foldl_append]
  rfl
theorem ledF_len (ms : List Int) (L : List Nat) (T : List (List (List Int)))
    (a : Nat) (S : List (List Int)) (i : Nat) :
    (ledF ms L T a S i).length = L.length := by
  induction i with
  | zero => simp [ledF]
  | succ i ih =>
    rw [ledF_succ]
    split
    · exact ih
    · rw [List.length_set]; exact ih
theorem ledF_get {ms hs : List Int} {L : List Nat} {T : List (List (List Int))}
    {a : Nat} {S : List (List Int)} (hL : LeadP hs L) : ∀ (i : Nat), i ≤ hs.length →
    ∀ b c, L[b]? = some c → (ledF ms L T a S i)[c]? = some (if b < i ∧ b ≠ a then
      sumF ms (S.getD b []) (tabT T a b) else zt ms)
  | 0, _, b, c, hb => by
    have := (hL.hue b c hb).1
    have hl := hL.len
    show (List.replicate L.length (zt ms))[c]? = _
    rw [List.getElem?_replicate, if_pos (by omega), if_neg (by omega)]
  | i + 1, hi, b, c, hb => by
    have ih := ledF_get (ms := ms) (T := T) (a := a) (S := S) hL i (by omega)
    obtain ⟨d, hd, hd2⟩ := hL.at (b := i) (by omega)
    rw [ledF_succ]
    by_cases e : i = a
    · rw [if_pos e, ih b c hb]
      by_cases eb : b < i ∧ b ≠ a
      · rw [if_pos eb, if_pos (by omega)]
      · rw [if_neg eb, if_neg (by omega)]
    · rw [if_neg e, natD_of hd]
      by_cases eb : b = i
      · subst eb
        rw [hd] at hb
        cases hb
        rw [List.getElem?_set_self (by rw [ledF_len, hL.len]; exact hd2),
          if_pos ⟨by omega, e⟩]
      · have hcd : d ≠ c := fun z => eb (by subst z; exact hL.inj hb hd)
        rw [List.getElem?_set_ne hcd, ih b c hb]
        by_cases eb2 : b < i ∧ b ≠ a
        · rw [if_pos eb2, if_pos (by omega)]
        · rw [if_neg eb2, if_neg (by omega)]
theorem led_get {ms hs : List Int} {t : Turn} {a b c : Nat} {S : List (List Int)}
    (ht : TurnP ms hs t) (hS : PlP ms hs.length a S) (hb : t.1[b]? = some c) :
    (ledP ms t (a, S)).2[c]? = some (if b = a then zt ms else
      sumF ms (S.getD b []) (tabT t.2 a b)) := by
  show (ledF ms t.1 t.2 a S S.length)[c]? = _
  have hl := hS.len
  have hl2 := ht.lead.len
  have hb2 := (List.getElem?_eq_some_iff.mp hb).1
  rw [ledF_get ht.lead S.length (by omega) b c hb]
  by_cases e : b = a
  · rw [if_neg (by omega), if_pos e]
  · rw [if_pos ⟨by omega, e⟩, if_neg e]
theorem led_place {ms hs : List Int} {t : Turn} {p : Spot} (hM : MsP ms)
    (ht : TurnP ms hs t) (hS : PlP ms hs.length p.1 p.2) :
    PlP ms hs.length (ledP ms t p).1 (ledP ms t p).2 := by
  obtain ⟨a, S⟩ := p
  obtain ⟨c, hc, hc2⟩ := ht.lead.at hS.lt
  have e1 : (ledP ms t (a, S)).1 = c := natD_of hc
  rw [e1]
  refine ⟨hc2, ?_, fun x hx => ?_, ?_⟩
  · show (ledF ms t.1 t.2 a S S.length).length = _
    rw [ledF_len, ht.lead.len]
  · obtain ⟨d, hd⟩ := List.getElem?_of_mem hx
    have hd2 : d < hs.length := by
      have := (List.getElem?_eq_some_iff.mp hd).1
      rw [← ht.lead.len, ← ledF_len ms t.1 t.2 a S S.length]
      exact this
    obtain ⟨b, hb, hb2⟩ := ht.lead.surj hd2
    rw [led_get ht hS hb2] at hd
    cases hd
    split
    · exact rep_tie hM
    · obtain ⟨y, ey⟩ := says_get hS.len hb
      rw [getD_of ey]
      exact sum_tie hM (hS.tie y (List.mem_of_getElem? ey)) (tabT_tie ht.tab hS.lt hb (by omega))
  · rw [led_get ht hS hc, if_pos rfl]
theorem led_says {ms hs : List Int} {t : Turn} {p : Spot} {b c : Nat}
    (ht : TurnP ms hs t) (hS : PlP ms hs.length p.1 p.2) (hb : t.1[b]? = some c)
    (hn : b ≠ p.1) : (ledP ms t p).2.getD c [] =
      sumF ms (p.2.getD b []) (tabT t.2 p.1 b) := by
  obtain ⟨a, S⟩ := p
  refine getD_of ?_
  rw [led_get ht hS hb, if_neg hn]
theorem led_stem {ms hs : List Int} {t : Turn} {p q : Spot}
    (ht : TurnP ms hs t) (hp : PlP ms hs.length p.1 p.2) (hq : PlP ms hs.length q.1 q.2) :
    ((ledP ms t p).1 = (ledP ms t q).1) ↔ p.1 = q.1 := by
  obtain ⟨c, hc, _⟩ := ht.lead.at hp.lt
  obtain ⟨d, hd, _⟩ := ht.lead.at hq.lt
  rw [show (ledP ms t p).1 = c from natD_of hc, show (ledP ms t q).1 = d from natD_of hd]
  constructor
  · intro e
    subst e
    exact ht.lead.inj hc hd
  · intro e
    rw [e, hd] at hc
    exact (Option.some.inj hc).symm
theorem led_inj {ms hs : List Int} {t : Turn} {p q : Spot} (hM : MsP ms)
    (ht : TurnP ms hs t) (hp : PlP ms hs.length p.1 p.2) (hq : PlP ms hs.length q.1 q.2)
    (h : ledP ms t p = ledP ms t q) : p = q := by
  have e1 := (led_stem ht hp hq).mp (by rw [h])
  obtain ⟨a, S⟩ := p
  obtain ⟨b, U⟩ := q
  simp only at e1 hp hq
  subst e1
  congr 1
  refine ext_of_get (by rw [hp.len, hq.len]) fun c x y ex ey => ?_
  have hc : c < hs.length := by
    have := (List.getElem?_eq_some_iff.mp ex).1
    rw [hp.len] at this
    exact this
  by_cases e : c = a
  · subst e
    have h1 := hp.own
    have h2 := hq.own
    rw [ex] at h1
    rw [ey] at h2
    exact (Option.some.inj h1).trans (Option.some.inj h2).symm
  · obtain ⟨d, hd, _⟩ := ht.lead.at hc
    have h1 := led_says (p := (a, S)) ht hp hd e
    have h2 := led_says (p := (a, U)) ht hq hd e
    rw [h] at h1
    have h3 := h1.symm.trans h2
    simp only [getD_of ex, getD_of ey] at h3
    exact sum_cancel hM (hp.tie x (List.mem_of_getElem? ex)) (hq.tie y (List.mem_of_getElem? ey))
      (tabT_tie ht.tab hp.lt hc (Ne.symm e)) h3
def stillT (ms : List Int) (n : Nat) : Turn := (List.range n, constT (zt ms) n)
theorem lead_still (hs : List Int) : LeadP hs (List.range hs.length) := by
  refine ⟨by simp, List.nodup_range, fun x y h => ?_⟩
  have hx := (List.getElem?_eq_some_iff.mp h).1
  rw [List.length_range] at hx
  rw [List.getElem?_range hx] at h
  cases h
  exact ⟨hx, rfl⟩
theorem still_turn {ms hs : List Int} (hM : MsP ms) : TurnP ms hs (stillT ms hs.length) :=
  ⟨lead_still hs, const_tab (rep_tie hM) _⟩
theorem const_tt {t : List Int} {n i j : Nat} (hi : i < n) (hj : j < i) :
    tt (constT t n) i j = t := by
  refine tt_of (r := List.replicate i t) ?_ ?_
  · unfold constT
    rw [List.getElem?_map, List.getElem?_range hi]
    rfl
  · rw [List.getElem?_replicate, if_pos hj]
theorem const_tabT {t : List Int} {n i j : Nat} (hi : i < n) (hj : j < n) (hij : i ≠ j) :
    tabT (constT t n) i j = t := by
  unfold tabT
  split
  · exact const_tt hi (by omega)
  · exact const_tt hj (by omega)
theorem still_led {ms hs : List Int} {p : Spot} (hM : MsP ms)
    (hp : PlP ms hs.length p.1 p.2) : ledP ms (stillT ms hs.length) p = p := by
  obtain ⟨a, S⟩ := p
  have ht := still_turn (hs := hs) hM
  have hlt := hp.lt
  simp only at hlt hp
  have e1 : (ledP ms (stillT ms hs.length) (a, S)).1 = a :=
    natD_of (List.getElem?_range hlt)
  have hP := led_place (p := (a, S)) hM ht hp
  refine Prod.ext e1 ?_
  refine ext_of_get (by rw [hP.len, hp.len]) fun c x y ex ey => ?_
  have hc : c < hs.length := by
    have := (List.getElem?_eq_some_iff.mp ey).1
    rw [hp.len] at this
    exact this
  rw [led_get ht hp (b := c) (List.getElem?_range hc)] at ex
  cases ex
  by_cases e : c = a
  · subst e
    rw [if_pos rfl]
    exact (Option.some.inj (ey.symm.trans hp.own)).symm
  · rw [if_neg e, getD_of ey]
    show sumF ms y (tabT (constT (zt ms) hs.length) a c) = y
    rw [const_tabT hlt hc (Ne.symm e)]
    exact sum_zero hM (hp.tie y (List.mem_of_getElem? ey))

def preMix (m : Nat) (ds : List D) : Prop := m < 6000000 ∧ ∃ c xs,
  ds = [c] ∧ c.items = some xs ∧ xs.length ≤ 200 ∧ ∀ x ∈ xs, Num 20 500 x ∨ xs.length ≤ 30 ∧ Num 20 3000 x
def psiMix (ds : List D) (m m' : Nat) (es : List D) : Prop := m' ≤ m + 200 ∧
  ∃ c xs, ds = [c] ∧ c.items = some xs ∧ es.Perm xs
theorem erase_perm {α : Type} : ∀ {xs : List α} {k : Nat} {y : α},
    xs[k]? = some y → (y :: xs.eraseIdx k).Perm xs
  | [], _, _, h => by simp at h
  | x :: xs, 0, y, h => by cases h; exact .refl _
  | x :: xs, k + 1, y, h => by
    rw [List.getElem?_cons_succ] at h
    show (y :: x :: xs.eraseIdx k).Perm (x :: xs)
    exact (List.Perm.swap x y _).trans (.cons x (erase_perm h))
def posF (hs : List Int) (g : Int) : List Int :=
  ((List.range hs.length).filter fun i => decide (hs.getD i 0 = g)).map
    fun (i : Nat) => (i : Int)
theorem pos_mem {hs : List Int} {g y : Int} (h : y ∈ posF hs g) :
    ∃ j : Nat, y = j ∧ j < hs.length ∧ hs[j]? = some g := by
  obtain ⟨j, hj, rfl⟩ := List.mem_map.mp h
  rw [List.mem_filter, List.mem_range, decide_eq_true_eq] at hj
  refine ⟨j, rfl, hj.1, ?_⟩
  rw [List.getD_eq_getElem?_getD, List.getElem?_eq_getElem hj.1] at hj
  rw [List.getElem?_eq_getElem hj.1]
  exact congrArg some hj.2
theorem pos_nodup (hs : List Int) (g : Int) : (posF hs g).Nodup := by
  unfold posF
  have h1 : ((List.range hs.length).filter fun i => decide (hs.getD i 0 = g)).Nodup :=
    List.Pairwise.filter _ List.nodup_range
  refine List.Pairwise.map _ (fun a b hab => ?_) h1
  intro e
  exact hab (by omega)
theorem map_getD (hs : List Int) : (List.range hs.length).map (fun i => hs.getD i 0) = hs := by
  refine ext_of_get (by simp) fun i x y e1 e2 => ?_
  have hi := (List.getElem?_eq_some_iff.mp e2).1
  rw [List.getElem?_map, List.getElem?_range hi] at e1
  cases e1
  show hs.getD i 0 = y
  rw [List.getD_eq_getElem?_getD, e2]
  rfl
theorem pos_len (hs : List Int) (g : Int) : (posF hs g).length = hs.count g := by
  unfold posF
  rw [List.length_map, ← List.countP_eq_length_filter]
  conv => rhs; rw [← map_getD hs]
  rw [List.count, List.countP_map]
  congr 1
theorem pop_lead {hs L : List Int} (h : PopR hs (posF hs) L) :
    ∃ L' : List Nat, L = (L'.map fun (i : Nat) => (i : Int)) ∧ LeadP hs L' := by
  obtain ⟨perm, h1, h2, h3⟩ := h
  have key : ∀ (i : Nat) g, hs[i]? = some g → ∃ j : Nat, L[i]? = some (j : Int) ∧
      j < hs.length ∧ hs[j]? = some g ∧
      (perm g)[hs.count g - 1 - (hs.take i).count g]? = some (j : Int) := by
    intro i g hi
    have hg := List.mem_of_getElem? hi
    have hc := count_lt hi
    have hl : (perm g).length = hs.count g := by rw [(h1 g hg).length_eq, pos_len]
    obtain ⟨y, hy⟩ : ∃ y, (perm g)[hs.count g - 1 - (hs.take i).count g]? = some y :=
      ⟨_, List.getElem?_eq_getElem (by omega)⟩
    obtain ⟨j, rfl, j1, j2⟩ := pos_mem ((h1 g hg).mem_iff.mp (List.mem_of_getElem? hy))
    exact ⟨j, (h3 i g hi).trans hy, j1, j2, hy⟩
  have at_ : ∀ i : Nat, i < hs.length → ∃ g, hs[i]? = some g :=
    fun i hi => ⟨hs[i], List.getElem?_eq_getElem hi⟩
  refine ⟨L.map Int.toNat, ?_, ?_⟩
  · rw [List.map_map]
    conv => lhs; rw [← List.map_id L]
    apply List.map_congr_left
    intro y hy
    obtain ⟨i, hi⟩ := List.getElem?_of_mem hy
    have hil := (List.getElem?_eq_some_iff.mp hi).1
    obtain ⟨g, hg⟩ := at_ i (by omega)
    obtain ⟨j, hj, _⟩ := key i g hg
    rw [hi] at hj
    cases hj
    show (j : Int) = (((j : Int).toNat : Nat) : Int)
    omega
  · have get : ∀ (i y : Nat), (L.map Int.toNat)[i]? = some y → i < hs.length ∧
        ∃ g, hs[i]? = some g ∧ y < hs.length ∧ hs[y]? = some g ∧
        (perm g)[hs.count g - 1 - (hs.take i).count g]? = some (y : Int) := by
      intro i y hy
      have hil := (List.getElem?_eq_some_iff.mp hy).1
      rw [List.length_map] at hil
      obtain ⟨g, hg⟩ := at_ i (by omega)
      obtain ⟨j, hj, j1, j2, j3⟩ := key i g hg
      rw [List.getElem?_map, hj] at hy
      have : j = y := by
        have := Option.some.inj hy
        omega
      subst this
      exact ⟨by omega, g, hg, j1, j2, j3⟩
    refine ⟨by simp [h2], ?_, fun x y hx => ?_⟩
    · show List.Pairwise _ _
      rw [List.pairwise_iff_getElem]
      intro i j hi hj hij e
      obtain ⟨i1, g, g1, g2, g3, g4⟩ := get i _ (List.getElem?_eq_getElem hi)
      obtain ⟨j1, g', g1', g2', g3', g4'⟩ := get j _ (List.getElem?_eq_getElem hj)
      rw [← e] at g3' g4'
      rw [g3] at g3'
      cases g3'
      have hg := List.mem_of_getElem? g1
      have nd : (perm g).Nodup := (h1 g hg).nodup_iff.mpr (pos_nodup hs g)
      have hl : (perm g).length = hs.count g := by rw [(h1 g hg).length_eq, pos_len]
      have c1 := count_lt g1
      have c2 := count_lt g1'
      have e2 := (List.getElem?_inj (by omega) nd).mp (g4.trans g4'.symm)
      have c3 := count_take (g := g) g1
      rw [if_pos rfl] at c3
      have c4 : (hs.take (i + 1)).count g ≤ (hs.take j).count g := by
        have : (hs.take (i + 1)) = (hs.take j).take (i + 1) := by
          rw [List.take_take, Nat.min_eq_left (by omega)]
        rw [this]
        exact List.Sublist.count_le _ (List.take_sublist _ _)
      omega
    · obtain ⟨_, g, g1, g2, g3, _⟩ := get x y hx
      exact ⟨g2, g3.trans g1.symm⟩
def preLd (m : Nat) (ds : List D) : Prop := m < 5500000 ∧ ∃ hs,
  ds = [.tup (dints hs)] ∧ hs.length ≤ 16
def psiLd (ds : List D) (m m' : Nat) (d : D) : Prop := m' ≤ m + 3200 ∧
  ∃ hs L, ds = [.tup (dints hs)] ∧ d = .tup (dnats L) ∧ LeadP hs L
def preTg (m : Nat) (ds : List D) : Prop := m < 5000000 ∧ ∃ ms hs,
  ds = [.tup (dints ms), .tup (dints hs)] ∧ MsP ms ∧ hs.length ≤ 16
def psiTg (ds : List D) (m m' : Nat) (d : D) : Prop := m' ≤ m + 5200 ∧
  ∃ ms hs t, ds = [.tup (dints ms), .tup (dints hs)] ∧ d = dturn t ∧ TurnP ms hs t
theorem g_leads {Ψ : Nat → D → Prop} {m : Nat} {hs : List Int} (hm : m < 5500000)
    (hl : hs.length ≤ 16)
    (h : ∀ (m2 : Nat) L, m2 ≤ m + 3200 → LeadP hs L → Ψ m2 (.tup (dnats L))) :
    preLd m [.tup (dints hs)] ∧ ∀ m2 d, psiLd [.tup (dints hs)] m m2 d → Ψ m2 d := by
  refine ⟨⟨hm, hs, rfl, hl⟩, fun m2 d q => ?_⟩
  obtain ⟨h1, hs2, L, e, rfl, h2⟩ := q
  cases tup_inj (List.cons.inj e).1
  exact h m2 L h1 h2
theorem g_turning {Ψ : Nat → D → Prop} {m : Nat} {ms hs : List Int} (hm : m < 5000000)
    (hM : MsP ms) (hl : hs.length ≤ 16)
    (h : ∀ (m2 : Nat) t, m2 ≤ m + 5200 → TurnP ms hs t → Ψ m2 (dturn t)) :
    preTg m [.tup (dints ms), .tup (dints hs)] ∧
      ∀ m2 d, psiTg [.tup (dints ms), .tup (dints hs)] m m2 d → Ψ m2 d := by
  refine ⟨⟨hm, ms, hs, rfl, hM, hl⟩, fun m2 d q => ?_⟩
  obtain ⟨h1, ms2, hs2, t, e, rfl, h2⟩ := q
  cases tup_inj (List.cons.inj e).1
  cases tup_inj (List.cons.inj (List.cons.inj e).2).1
  exact h m2 t h1 h2
def preAt (ds : List D) : Prop := ∃ (ms : List Int) (n : Nat) (T : List (List (List Int)))
  (i j : Nat), ds = [dtab T, .int i, .int j] ∧ TabP ms n T ∧ i < n ∧ j < n ∧ i ≠ j
def fAt : List D → D
  | [t, .int i, .int j] => .tup (dints (tabT (utab t) i.toNat j.toNat))
  | _ => .non
theorem fAt_is (T : List (List (List Int))) (i j : Nat) :
    fAt [dtab T, .int i, .int j] = .tup (dints (tabT T i j)) := by
  show D.tup (dints (tabT (utab (dtab T)) (i : Int).toNat (j : Int).toNat)) = _
  rw [utab_dtab, Int.toNat_natCast, Int.toNat_natCast]
def preLe (ds : List D) : Prop := ∃ ms hs t p, ds = [.tup (dints ms), dturn t, dspot p] ∧
  MsP ms ∧ hs.length ≤ 16 ∧ TurnP ms hs t ∧ PlP ms hs.length p.1 p.2
def fLe : List D → D
  | [.tup ms, t, p] => dspot (ledP (uints ms) (uturn t) (uspot p))
  | _ => .non
theorem fLe_is (ms : List Int) (t : Turn) (p : Spot) :
    fLe [.tup (dints ms), dturn t, dspot p] = dspot (ledP ms t p) := by
  show dspot (ledP (uints (dints ms)) (uturn (dturn t)) (uspot (dspot p))) = _
  rw [uints_dints, uturn_dturn, uspot_dspot]
def preLp (C : Addr) (ds : List D) : Prop := ∃ ms hs t p,
  ds = [frD C ms hs, dturn t, dspot p] ∧
  MsP ms ∧ hs.length ≤ 16 ∧ TurnP ms hs t ∧ PlP ms hs.length p.1 p.2
def fLp : List D → D
  | [.ins _ _ [.tup ms, _], t, p] => dspot (ledP (uints ms) (uturn t) (uspot p))
  | _ => .non
theorem fLp_is (C : Addr) (ms hs : List Int) (t : Turn) (p : Spot) :
    fLp [frD C ms hs, dturn t, dspot p] = dspot (ledP ms t p) := by
  show dspot (ledP (uints (dints ms)) (uturn (dturn t)) (uspot (dspot p))) = _
  rw [uints_dints, uturn_dturn, uspot_dspot]
def preLs (ds : List D) : Prop := ∃ ms, ∃ n : Nat, ds = [.tup (dints ms), .int n] ∧ MsP ms ∧ n ≤ 16
def fLs : List D → D
  | [.tup ms, .int n] => dturn (stillT (uints ms) n.toNat)
  | _ => .non
theorem fLs_is (ms : List Int) (n : Nat) :
    fLs [.tup (dints ms), .int n] = dturn (stillT ms n) := by
  show dturn (stillT (uints (dints ms)) (n : Int).toNat) = _
  rw [uints_dints, Int.toNat_natCast]
theorem const_dtab (t : List Int) (n : Nat) : dtab (constT t n) =
    .tup ((List.range n).map fun i => .tup (List.replicate i (.tup (dints t)))) := by
  show D.tup (((List.range n).map fun i => List.replicate i t).map _) = _
  rw [List.map_map]
  congr 1
  apply List.map_congr_left
  intro i _
  show D.tup ((List.replicate i t).map _) = _
  rw [List.map_replicate]
theorem num_nats {L : List Nat} (hl : L.length ≤ 16) (h : ∀ i ∈ L, i ≤ 16) :
    Num 1 256 (.tup (dnats L)) := by
  refine (Num.tup (k := 0) (w := 15) fun x hx => ?_).up (by omega) ?_
  · obtain ⟨i, hi, rfl⟩ := List.mem_map.mp hx
    have := h i hi
    exact num_int (by omega) (by omega)
  · rw [List.length_map]; omega
theorem TurnP.num {ms hs : List Int} {t : Turn} (h : TurnP ms hs t) (hM : MsP ms)
    (hn : hs.length ≤ 16) : Num 4 32002 (dturn t) := by
  have h1 : Num 1 256 (.tup (dnats t.1)) := num_nats (by rw [h.lead.len]; exact hn) fun i hi => by
    obtain ⟨x, hx⟩ := List.getElem?_of_mem hi
    have := (h.lead.hue x i hx).1
    omega
  have h2 := TabP.num hM hn h.tab
  refine (Num.tup (k := 3) (w := 16000) fun x hx => ?_).up (by omega) (by simp)
  simp only [List.mem_cons, List.not_mem_nil, or_false] at hx
  rcases hx with rfl | rfl
  · exact h1.up (by omega) (by omega)
  · exact h2
theorem perm_ints {es : List D} {ns : List Int} (h : es.Perm (dints ns)) :
    ∃ L : List Int, es = L.map D.int ∧ L.Perm ns := by
  refine ⟨uints es, ?_, ?_⟩
  · obtain ⟨L, e, _⟩ := dmap_of (g := D.int) (ys := es) (P := fun _ _ => True) fun i y hy => by
      obtain ⟨n, _, rfl⟩ := List.mem_map.mp (h.mem_iff.mp (List.mem_of_getElem? hy))
      exact ⟨n, rfl, trivial⟩
    have : uints es = L := by rw [e]; exact uints_dints L
    rw [this]; exact e
  · have key : ∀ xs ys : List D, xs.Perm ys → (∀ y ∈ ys, ∃ n, y = .int n) → (uints xs).Perm (uints ys) := by
      intro xs ys hp
      induction hp with
      | nil => intro _; exact .refl _
      | cons x _ ih =>
        intro hy
        obtain ⟨n, rfl⟩ := hy x List.mem_cons_self
        exact .cons n (ih fun y h => hy y (List.mem_cons_of_mem _ h))
      | swap x y l =>
        intro hy
        obtain ⟨n, rfl⟩ := hy x List.mem_cons_self
        obtain ⟨k, rfl⟩ := hy y (List.mem_cons_of_mem _ List.mem_cons_self)
        exact .swap n k _
      | trans h1 h2 ih1 ih2 =>
        intro hy
        exact (ih1 fun y h => hy y (h2.mem_iff.mp h)).trans (ih2 hy)
    have := key es (dints ns) h fun y hy => by
      obtain ⟨n, _, rfl⟩ := List.mem_map.mp hy
      exact ⟨n, rfl⟩
    rwa [uints_dints] at this

theorem dspot_inj {p q : Spot} (h : dspot p = dspot q) : p = q := by
  have := congrArg uspot h
  rwa [uspot_dspot, uspot_dspot] at this
theorem sum_assoc {ms x y z : List Int} (hM : MsP ms) (hx : TieP ms x)
    (hy : TieP ms y) (hz : TieP ms z) :
    sumF ms (sumF ms x y) z = sumF ms x (sumF ms y z) := by
  refine tie_ext (sum_tie hM (sum_tie hM hx hy) hz).1
    (sum_tie hM hx (sum_tie hM hy hz)).1 fun c m em => ?_
  obtain ⟨a, ea, _⟩ := tget hx em
  obtain ⟨b, eb, _⟩ := tget hy em
  obtain ⟨d, ed, _⟩ := tget hz em
  rw [sum_get em (sum_get em ea eb) ed, sum_get em ea (sum_get em eb ed)]
  congr 1
  rw [Int.add_emod, Int.emod_emod, ← Int.add_emod, Int.add_emod a, Int.emod_emod,
    ← Int.add_emod, Int.add_assoc]
/-- a table by a function of greater and lesser stem -/
def mkT (n : Nat) (f : Nat → Nat → List Int) : List (List (List Int)) :=
  (List.range n).map fun i => (List.range i).map fun j => f i j
theorem mkT_row {n : Nat} {f : Nat → Nat → List Int} {i : Nat} (hi : i < n) :
    (mkT n f)[i]? = some ((List.range i).map fun j => f i j) := by
  unfold mkT
  rw [List.getElem?_map, List.getElem?_range hi]; rfl
theorem mkT_tt {n : Nat} {f : Nat → Nat → List Int} {i j : Nat} (hi : i < n)
    (hj : j < i) : tt (mkT n f) i j = f i j :=
  tt_of (mkT_row hi) (by rw [List.getElem?_map, List.getElem?_range hj]; rfl)
theorem tabT_gt {T : List (List (List Int))} {i j : Nat} (h : j < i) :
    tabT T i j = tt T i j := if_pos h
theorem tabT_le {T : List (List (List Int))} {i j : Nat} (h : ¬ j < i) :
    tabT T i j = tt T j i := if_neg h
theorem mkT_tab {ms : List Int} {n : Nat} {f : Nat → Nat → List Int}
    (h : ∀ i j, i < n → j < i → TieP ms (f i j)) : TabP ms n (mkT n f) := by
  refine ⟨by simp [mkT], fun i r e => ?_⟩
  have hi : i < n := by
    have := (List.getElem?_eq_some_iff.mp e).1
    simpa [mkT] using this
  rw [mkT_row hi] at e
  cases e
  refine ⟨by simp, fun t ht => ?_⟩
  obtain ⟨j, hj, rfl⟩ := List.mem_map.mp ht
  exact h i j hi (List.mem_range.mp hj)
theorem tab_ext {ms : List Int} {n : Nat} {T U : List (List (List Int))}
    (h : TabP ms n T) (h' : TabP ms n U)
    (e : ∀ i j, i < n → j < i → tt T i j = tt U i j) : T = U := by
  refine ext_of_get (by rw [h.1, h'.1]) fun i r r' e1 e2 => ?_
  have hi : i < n := by
    have := (List.getElem?_eq_some_iff.mp e1).1
    rw [h.1] at this
    exact this
  have h1 := h.2 i r e1
  have h2 := h'.2 i r' e2
  refine ext_of_get (by rw [h1.1, h2.1]) fun j t t' e3 e4 => ?_
  have hj : j < i := by
    have := (List.getElem?_eq_some_iff.mp e3).1
    omega
  have := e i j hi hj
  rwa [tt_of e1 e3, tt_of e2 e4] at this
def behT (ms : List Int) (t u : Turn) : Turn :=
  (t.1.map fun c => u.1.getD c 0, mkT t.1.length fun i j =>
    sumF ms (tt t.2 i j) (tabT u.2 (t.1.getD i 0) (t.1.getD j 0)))
theorem LeadP.ne {hs : List Int} {L : List Nat} (h : LeadP hs L) {a b c d : Nat}
    (ha : L[a]? = some c) (hb : L[b]? = some d) (hn : a ≠ b) : c ≠ d := by
  intro e
  subst e
  exact hn (h.inj ha hb)
theorem beh_lead {ms hs : List Int} {t u : Turn} (ht : TurnP ms hs t)
    (hu : TurnP ms hs u) : LeadP hs (behT ms t u).1 := by
  have hl := ht.lead.len
  have at_ : ∀ x y : Nat, (behT ms t u).1[x]? = some y → ∃ c, t.1[x]? = some c ∧
      u.1[c]? = some y := by
    intro x y e
    have e : (t.1.map fun c => u.1.getD c 0)[x]? = some y := e
    rw [List.getElem?_map] at e
    cases ec : t.1[x]? with
    | none => rw [ec] at e; cases e
    | some c =>
      rw [ec] at e
      obtain ⟨d, hd, _⟩ := hu.lead.at (ht.lead.hue x c ec).1
      refine ⟨c, rfl, ?_⟩
      rw [hd]
      have : u.1.getD c 0 = y := Option.some.inj e
      rw [natD_of hd] at this
      rw [this]
  refine ⟨by show (t.1.map _).length = _; rw [List.length_map, hl], ?_, fun x y e => ?_⟩
  · show List.Pairwise _ _
    rw [List.pairwise_iff_getElem]
    intro i j hi hj hij e
    obtain ⟨c, c1, c2⟩ := at_ i _ (List.getElem?_eq_getElem hi)
    obtain ⟨d, d1, d2⟩ := at_ j _ (List.getElem?_eq_getElem hj)
    rw [← e] at d2
    have := hu.lead.inj c2 d2
    subst this
    have := ht.lead.inj c1 d1
    omega
  · obtain ⟨c, c1, c2⟩ := at_ x y e
    have h1 := hu.lead.hue c y c2
    exact ⟨h1.1, h1.2.trans (ht.lead.hue x c c1).2⟩
theorem beh_turn {ms hs : List Int} {t u : Turn} (hM : MsP ms) (ht : TurnP ms hs t)
    (hu : TurnP ms hs u) : TurnP ms hs (behT ms t u) := by
  refine ⟨beh_lead ht hu, ?_⟩
  show TabP ms hs.length (mkT t.1.length _)
  rw [ht.lead.len]
  refine mkT_tab fun i j hi hj => ?_
  obtain ⟨c, hc, hc2⟩ := ht.lead.at hi
  obtain ⟨d, hd, hd2⟩ := ht.lead.at (b := j) (by omega)
  rw [natD_of hc, natD_of hd]
  exact sum_tie hM (tt_tie ht.tab hi hj)
    (tabT_tie hu.tab hc2 hd2 (ht.lead.ne hc hd (by omega)))
theorem beh_tab {ms hs : List Int} {t u : Turn} {i j c d : Nat} (ht : TurnP ms hs t)
    (hi : t.1[i]? = some c) (hj : t.1[j]? = some d) (hij : i ≠ j) :
    tabT (behT ms t u).2 i j = sumF ms (tabT t.2 i j) (tabT u.2 c d) := by
  have hi2 := (List.getElem?_eq_some_iff.mp hi).1
  have hj2 := (List.getElem?_eq_some_iff.mp hj).1
  show tabT (mkT t.1.length _) i j = _
  by_cases e : j < i
  · rw [tabT_gt e, tabT_gt e, mkT_tt hi2 e, natD_of hi, natD_of hj]
  · rw [tabT_le e, tabT_le e, mkT_tt hj2 (by omega), natD_of hi, natD_of hj,
      tabT_comm _ _ _ (ht.lead.ne hj hi (Ne.symm hij))]
theorem beh_led {ms hs : List Int} {t u : Turn} {p : Spot} (hM : MsP ms)
    (ht : TurnP ms hs t) (hu : TurnP ms hs u) (hp : PlP ms hs.length p.1 p.2) :
    ledP ms (behT ms t u) p = ledP ms u (ledP ms t p) := by
  have hb := beh_turn hM ht hu
  have h1 := led_place hM ht hp
  have h2 := led_place hM hu h1
  have h3 := led_place hM hb hp
  obtain ⟨c, hc, hc2⟩ := ht.lead.at hp.lt
  obtain ⟨e, he, he2⟩ := hu.lead.at hc2
  have hbe : ∀ b d x : Nat, t.1[b]? = some d → u.1[d]? = some x →
      (behT ms t u).1[b]? = some x := by
    intro b d x h4 h5
    show (t.1.map fun c => u.1.getD c 0)[b]? = some x
    rw [List.getElem?_map, h4]
    show some (u.1.getD d 0) = some x
    rw [natD_of h5]
  have e1 : (ledP ms t p).1 = c := natD_of hc
  have e2 : (ledP ms u (ledP ms t p)).1 = e := by
    show u.1.getD (ledP ms t p).1 0 = e
    rw [e1]; exact natD_of he
  have e3 : (ledP ms (behT ms t u) p).1 = e := natD_of (hbe _ _ _ hc he)
  refine Prod.ext (e3.trans e2.symm) ?_
  refine ext_of_get (by rw [h3.len, h2.len]) fun x y z ey ez => ?_
  have hx : x < hs.length := by
    have := (List.getElem?_eq_some_iff.mp ey).1
    rw [h3.len] at this
    exact this
  obtain ⟨d, hd, hd2⟩ := hu.lead.surj hx
  obtain ⟨b, hb1, hb2⟩ := ht.lead.surj hd
  have f1 := led_get (a := p.1) (S := p.2) hb hp (hbe b d x hb2 hd2)
  have f2 := led_get (a := (ledP ms t p).1) (S := (ledP ms t p).2) hu h1 hd2
  rw [show ledP ms (behT ms t u) (p.1, p.2) = ledP ms (behT ms t u) p from rfl, ey] at f1
  rw [show ledP ms u ((ledP ms t p).1, (ledP ms t p).2) = ledP ms u (ledP ms t p) from rfl, ez] at f2
  rw [Option.some.inj f1, Option.some.inj f2, e1]
  by_cases eb : b = p.1
  · subst eb
    rw [hc] at hb2
    rw [if_pos rfl, if_pos (Option.some.inj hb2).symm]
  · have hdc : d ≠ c := ht.lead.ne hb2 hc eb
    rw [if_neg eb, if_neg hdc, led_says ht hp hb2 eb, beh_tab ht hc hb2 (Ne.symm eb)]
    obtain ⟨w, ew⟩ := says_get hp.len hb1
    rw [getD_of ew]
    exact (sum_assoc hM (hp.tie w (List.mem_of_getElem? ew))
      (tabT_tie ht.tab hp.lt hb1 (Ne.symm eb)) (tabT_tie hu.tab hc2 hd (Ne.symm hdc))).symm
/-- a turning is known by where it leads -/
theorem turn_ext {ms hs : List Int} {t u : Turn} (ht : TurnP ms hs t) (hu : TurnP ms hs u)
    (h1 : t.1 = u.1) (h2 : ∀ i j, i < hs.length → j < i → tt t.2 i j = tt u.2 i j) : t = u :=
  Prod.ext h1 (tab_ext ht.tab hu.tab h2)
theorem LeadP.still_beh {ms hs : List Int} {t : Turn} (hM : MsP ms) (ht : TurnP ms hs t) :
    behT ms t (stillT ms hs.length) = t := by
  refine turn_ext (beh_turn hM ht (still_turn hM)) ht ?_ fun i j hi hj => ?_
  · show (t.1.map fun c => (List.range hs.length).getD c 0) = t.1
    conv => rhs; rw [← List.map_id t.1]
    apply List.map_congr_left
    intro c hc
    obtain ⟨x, hx⟩ := List.getElem?_of_mem hc
    exact natD_of (List.getElem?_range (ht.lead.hue x c hx).1)
  · obtain ⟨c, hc, hc2⟩ := ht.lead.at hi
    obtain ⟨d, hd, hd2⟩ := ht.lead.at (b := j) (by omega)
    have e1 : tt (behT ms t (stillT ms hs.length)).2 i j = tabT (behT ms t (stillT ms hs.length)).2 i j := by
      rw [tabT, if_pos hj]
    rw [e1, beh_tab ht hc hd (by omega)]
    show sumF ms (tabT t.2 i j) (tabT (constT (zt ms) hs.length) c d) = _
    rw [const_tabT hc2 hd2 (ht.lead.ne hc hd (by omega)),
      sum_zero hM (tabT_tie ht.tab hi (j := j) (by omega) (by omega)), tabT, if_pos hj]

noncomputable def cB (p : Prop) : Bool := @decide p (Classical.propDecidable p)
theorem cB_false {p : Prop} (h : ¬ p) : cB p = false := by
  unfold cB; exact @decide_eq_false p (Classical.propDecidable p) h
/-- things that are not too much -/
def Fit (d : D) : Prop := ∃ (b : Int) (k w : Nat), Sm b k w d ∧ 5 ≤ b ∧ b ≤ 8000 ∧ k ≤ 50 ∧ w ≤ 30000
theorem Fit.plain {d : D} (h : Fit d) : d.plain = true := by
  obtain ⟨b, k, w, h, _⟩ := h
  exact h.itm.plain
theorem sm_kk {b : Int} {k w : Nat} {xs : List D} (h : Sm b k w (.tup xs)) : ∃ k', k = k' + 1 ∧ Sms b k' w xs := by
  have := h.itm.deep1
  obtain ⟨k', rfl⟩ : ∃ k', k = k' + 1 := ⟨k - 1, by omega⟩
  exact ⟨k', rfl, h.sms⟩
theorem Fit.len {xs : List D} (h : Fit (.tup xs)) : xs.length ≤ 30000 := by
  obtain ⟨b, k, w, h, _, _, _, hw⟩ := h
  obtain ⟨k', rfl, hs⟩ := sm_kk h
  have := hs.its.len
  omega
abbrev dp (p : Nat × Nat) : D := .tup [.int p.1, .int p.2]
def InR (n : Nat) (P : List (Nat × Nat)) : Prop := ∀ p ∈ P, p.1 < n ∧ p.2 < n
def Mat (P : List (Nat × Nat)) : Prop := P.Pairwise fun p q => p.1 < q.1 ∧ p.2 ≠ q.2
def Hue (hs : List Int) (P : List (Nat × Nat)) : Prop := ∀ p ∈ P, hs[p.1]? = hs[p.2]?
def Tis (ms : List Int) (T U : List (List (List Int))) (P : List (Nat × Nat)) : Prop :=
  ∀ p ∈ P, ∀ q ∈ P, p.1 ≠ q.1 → webT ms T p.1 q.1 = webT ms U p.2 q.2
def Fit2 (d : D) : Prop := ∃ (b : Int) (k w : Nat), Sm b k w d ∧ 100 ≤ b ∧ b ≤ 8000 ∧ k ≤ 50 ∧ w ≤ 30000
theorem Fit2.plain {d : D} (h : Fit2 d) : d.plain = true := by
  obtain ⟨b, k, w, h, _⟩ := h
  exact h.itm.plain
theorem Fit2.len {xs : List D} (h : Fit2 (.tup xs)) : xs.length ≤ 30000 := by
  obtain ⟨b, k, w, h, _, _, _, hw⟩ := h
  obtain ⟨k', rfl, hs⟩ := sm_kk h
  have := hs.its.len
  omega
theorem cut_set {α : Type} (g : α → D) (xs : List α) (k : Nat) (x : α) (h : k < xs.length) :
    Wt.cutD (xs.map g) none (some (k : Int)) ++ [g x] ++ Wt.cutD (xs.map g) (some ((k : Int) + 1)) none = (xs.set k x).map g := by
  rw [cut_take, show ((k : Int) + 1) = ((k + 1 : Nat) : Int) by omega, cut_drop, List.set_eq_take_append_cons_drop, if_pos h,
    List.map_append, List.map_cons, List.map_take, List.map_drop, List.append_assoc]
  rfl
section
variable {K : PySem.W.Frag} {l : Option Addr} {ρ : Ro} {m : Nat}
variable {Φ : Nat → D → Prop}
end
abbrev Row := Spot × Spot
abbrev drow (r : Row) : D := .tup [dspot r.1, dspot r.2]
structure RowP (ms : List Int) (n : Nat) (r : Row) : Prop where
  fst : PlP ms n r.1.1 r.1.2
  snd : PlP ms n r.2.1 r.2.2
structure PartP (ms : List Int) (n : Nat) (P : List Row) : Prop where
  row : ∀ r ∈ P, RowP ms n r
  ris : P.Pairwise fun p q => leD (drow p) (drow q) = true
  nd1 : (P.map (·.1)).Nodup
  nd2 : (P.map (·.2)).Nodup
theorem RowP.num {ms : List Int} {n : Nat} {r : Row} (h : RowP ms n r) (hM : MsP ms) (hn : n ≤ 17) : Num 4 3402 (drow r) := by
  refine (Num.tup (k := 3) (w := 1700) fun x hx => ?_).up (by omega) (by simp)
  simp only [List.mem_cons, List.not_mem_nil, or_false] at hx
  rcases hx with rfl | rfl
  · exact h.fst.num hM hn
  · exact h.snd.num hM hn
theorem depthAll_le {ks : List NestedKey} {c : Nat} (h : ∀ k ∈ ks, k.depth ≤ c) : NestedKey.depthAll ks ≤ c := by
  induction ks with
  | nil => exact Nat.zero_le _
  | cons k ks ih =>
    rw [NestedKey.depthAll]
    have h1 := h k List.mem_cons_self
    have h2 := ih fun x hx => h x (List.mem_cons_of_mem _ hx)
    omega
def stAt (ms : List Int) (T : List (List (List Int))) (i : Nat) : Spot := (standP ms T).getD i (0, [])
structure LikeP (ms hs : List Int) (T U : List (List (List Int))) (P : List (Nat × Nat)) : Prop where
  inr : InR hs.length P
  mat : Mat P
  hue : Hue hs P
  tis : Tis ms T U P
theorem LikeP.sub {ms hs : List Int} {T U : List (List (List Int))} {P Q : List (Nat × Nat)} (h : LikeP ms hs T U P) (s : Q.Sublist P) : LikeP ms hs T U Q :=
  ⟨fun p hp => h.inr p (s.mem hp), h.mat.sublist s, fun p hp => h.hue p (s.mem hp), fun p hp q hq => h.tis p (s.mem hp) q (s.mem hq)⟩
theorem LikeP.self {ms hs : List Int} {T U : List (List (List Int))} {P : List (Nat × Nat)} (h : LikeP ms hs T U P) :
    LikeP ms hs T T (P.map fun p => (p.1, p.1)) := by
  refine ⟨fun p hp => ?_, ?_, fun p hp => ?_, fun p hp q hq _ => ?_⟩
  · obtain ⟨q, hq, rfl⟩ := List.mem_map.mp hp
    exact ⟨(h.inr q hq).1, (h.inr q hq).1⟩
  · unfold Mat
    rw [List.pairwise_map]
    exact List.Pairwise.imp (fun {p q} z => ⟨z.1, by omega⟩) h.mat
  · obtain ⟨q, hq, rfl⟩ := List.mem_map.mp hp
    rfl
  · obtain ⟨p', _, rfl⟩ := List.mem_map.mp hp
    obtain ⟨q', _, rfl⟩ := List.mem_map.mp hq
    rfl
theorem st_tie {ms : List Int} {n : Nat} {T : List (List (List Int))} {i j : Nat} (hM : MsP ms) (hT : TabP ms n T)
    (hi : i < n) (hj : j < n) (hij : i ≠ j) :
    lessF ms ((stAt ms T i).2.getD j []) ((stAt ms T j).2.getD i []) = webT ms T i j :=
  stand_web hM hT hi hj hij
/-- the first place of a stem -/
def firstOf (L : List Spot) (a : Nat) : Option Spot := L.find? fun p => decide (p.1 = a)
abbrev Sign := Int × List (List Int)
abbrev dsign (s : Sign) : D := .tup [.int s.1, dsays s.2]
noncomputable def diffs (ms : List Int) (L : List Spot) (x : Nat) : List (List Int) :=
  (L.filter fun p => !cB (firstOf L p.1 = some p)).map fun p => lessF ms (p.2.getD x []) (((firstOf L p.1).getD (0, [])).2.getD x [])
/-- the stems that no place is of, with their signs -/
noncomputable def frees (ms hs : List Int) (L : List Spot) : List (Nat × Sign) :=
  (hs.zipIdx.filter fun a => !(firstOf L a.2).isSome).map fun a => (a.2, (a.1, diffs ms L a.2))
def pairsN (n : Nat) : List (Nat × Nat) := (List.range n).flatMap fun i => (List.range (n - (i + 1))).map fun t => (i, i + 1 + t)
/-- what bars a part by one row, by two rows -/
abbrev dB1 (s : Str) (i : Nat) : D := .tup [.str s, .int i]
abbrev dB2 (s : Str) (p : Nat × Nat) : D := .tup [.str s, .int p.1, .int p.2]
def rowAt (P : List Row) (i : Nat) : Row := P.getD i ((0, []), (0, []))
def hueB (hs : List Int) (r : Row) : Bool := !decide (hs.getD r.1.1 0 = hs.getD r.2.1 0)
def hueBs (hs : List Int) (P : List Row) : List Nat := (P.zipIdx.filter fun a => hueB hs a.1).map fun a => a.2
def stemB (p q : Row) : Bool := !decide (decide (p.1.1 = q.1.1) = decide (p.2.1 = q.2.1))
def tieB2 (ms : List Int) (p q : Row) : Bool := !decide (p.1.1 = q.1.1) && (!decide (p.2.1 = q.2.1) &&
  !decide (lessF ms (p.1.2.getD q.1.1 []) (q.1.2.getD p.1.1 []) = lessF ms (p.2.2.getD q.2.1 []) (q.2.2.getD p.2.1 [])))
def stemBs (P : List Row) : List (Nat × Nat) := (pairsN P.length).filter fun p => stemB (rowAt P p.1) (rowAt P p.2)
def tieBs (ms : List Int) (P : List Row) : List (Nat × Nat) := (pairsN P.length).filter fun p => tieB2 ms (rowAt P p.1) (rowAt P p.2)
def sHue : Str := Str.ofString "hue"
def sStems : Str := Str.ofString "stems"
def sTie : Str := Str.ofString "tie"
def sCount : Str := Str.ofString "count"
def rowBs (ms hs : List Int) (P : List Row) : List D :=
  (hueBs hs P).map (dB1 sHue) ++ (stemBs P).map (dB2 sStems) ++ (tieBs ms P).map (dB2 sTie)
structure RowsP (ms hs : List Int) (P : List Row) : Prop where
  row : ∀ r ∈ P, RowP ms hs.length r
  len : P.length ≤ 40
  hue : ∀ h ∈ hs, 0 ≤ h ∧ h ≤ 9
noncomputable def sgns (ms hs : List Int) (L : List Spot) : List Sign := (frees ms hs L).map (·.2)
structure SignP (ms : List Int) (s : Sign) : Prop where
  hue : 0 ≤ s.1 ∧ s.1 ≤ 9
  len : s.2.length ≤ 40
  tie : ∀ t ∈ s.2, TieP ms t
def usign : D → Sign
  | .tup [.int h, s] => (h, usays s)
  | _ => (0, [])
theorem usign_dsign (s : Sign) : usign (dsign s) = s := by
  show (s.1, usays (dsays s.2)) = s
  rw [usays_dsays]
theorem dsign_inj {s t : Sign} (h : dsign s = dsign t) : s = t := by
  rw [← usign_dsign s, h, usign_dsign]
/-- the unlike signs among A, rising -/
def SortS (A rs : List Sign) : Prop := SortU (A.map dsign) (rs.map dsign)
open Classical in
noncomputable def signsOf (A : List Sign) : List Sign := if h : ∃ rs, SortS A rs then h.choose else []
theorem SignP.num {ms : List Int} {s : Sign} (h : SignP ms s) (hM : MsP ms) : Num 3 4000 (dsign s) := by
  have h1 : Num 2 1960 (dsays s.2) := (Num.tup (k := 1) (w := 48) fun x hx => by
    obtain ⟨t, ht, rfl⟩ := List.mem_map.mp hx
    exact (h.tie t ht).num hM).up (by omega) (by rw [List.length_map]; have := h.len; omega)
  refine (Num.tup (k := 2) (w := 1960) fun x hx => ?_).up (by omega) (by simp)
  simp only [List.mem_cons, List.not_mem_nil, or_false] at hx
  rcases hx with rfl | rfl
  · have := h.hue
    exact (num_int (by omega) (by omega)).up (by omega) (by omega)
  · exact h1
noncomputable def cnts (ms hs : List Int) (P : List Row) : List (Sign × Nat × Nat) :=
  (signsOf (sgns ms hs (P.map (·.1)) ++ sgns ms hs (P.map (·.2)))).map fun s =>
    (s, (sgns ms hs (P.map (·.1))).countP (fun a => cB (a = s)), (sgns ms hs (P.map (·.2))).countP fun a => cB (a = s))
abbrev dB4 (c : Sign × Nat × Nat) : D := .tup [.str sCount, dsign c.1, .int c.2.1, .int c.2.2]
noncomputable def cntBs (ms hs : List Int) (P : List Row) : List (Sign × Nat × Nat) := (cnts ms hs P).filter fun c => !decide (c.2.1 = c.2.2)
noncomputable def allBs (ms hs : List Int) (P : List Row) : List D :=
  if rowBs ms hs P = [] then (cntBs ms hs P).map dB4 else rowBs ms hs P
noncomputable def firstB (ms hs : List Int) (P : List Row) : D := ((allBs ms hs P).head?).getD .non
theorem beh_get {ms : List Int} {t u : Turn} {x c e : Nat} (hc : t.1[x]? = some c)
    (he : u.1[c]? = some e) : (behT ms t u).1[x]? = some e := by
  show (t.1.map fun c => u.1.getD c 0)[x]? = _
  rw [List.getElem?_map, hc]
  show some (u.1.getD c 0) = _
  rw [natD_of he]
theorem beh_assoc {ms hs : List Int} {t u v : Turn} (hM : MsP ms) (ht : TurnP ms hs t)
    (hu : TurnP ms hs u) (hv : TurnP ms hs v) :
    behT ms (behT ms t u) v = behT ms t (behT ms u v) := by
  have h1 := beh_turn hM ht hu
  have h2 := beh_turn hM hu hv
  refine turn_ext (beh_turn hM h1 hv) (beh_turn hM ht h2) ?_ fun i j hi hj => ?_
  · refine ext_of_get (by rw [(beh_turn hM h1 hv).lead.len, (beh_turn hM ht h2).lead.len])
      fun x y z e1 e2 => ?_
    have hx : x < hs.length := by
      have := (List.getElem?_eq_some_iff.mp e1).1
      rw [(beh_turn hM h1 hv).lead.len] at this
      exact this
    obtain ⟨c, hc, hc2⟩ := ht.lead.at hx
    obtain ⟨d, hd, hd2⟩ := hu.lead.at hc2
    obtain ⟨e, he, _⟩ := hv.lead.at hd2
    rw [beh_get (beh_get hc hd) he] at e1
    rw [beh_get hc (beh_get hd he)] at e2
    exact (Option.some.inj e1).symm.trans (Option.some.inj e2)
  · obtain ⟨c, hc, hc2⟩ := ht.lead.at hi
    obtain ⟨d, hd, hd2⟩ := ht.lead.at (b := j) (by omega)
    have hcd : c ≠ d := ht.lead.ne hc hd (by omega)
    obtain ⟨c', hc', hc2'⟩ := hu.lead.at hc2
    obtain ⟨d', hd', hd2'⟩ := hu.lead.at hd2
    have hcd' : c' ≠ d' := hu.lead.ne hc' hd' hcd
    have e : ∀ w : Turn, tt w.2 i j = tabT w.2 i j := fun w => (tabT_gt hj).symm
    rw [e, e, beh_tab h1 (beh_get hc hc') (beh_get hd hd') (by omega),
      beh_tab ht hc hd (by omega), beh_tab ht hc hd (by omega), beh_tab hu hc' hd' hcd]
    exact sum_assoc hM (tabT_tie ht.tab hi (by omega) (by omega)) (tabT_tie hu.tab hc2 hd2 hcd)
      (tabT_tie hv.tab hc2' hd2' hcd')
structure LedRows (ms hs : List Int) (t : Turn) (P : List Row) : Prop where
  pl : ∀ r ∈ P, PlP ms hs.length r.1.1 r.1.2
  led : ∀ r ∈ P, r.2 = ledP ms t r.1
  nd : (P.map (·.1)).Nodup
theorem LedRows.row {ms hs : List Int} {t : Turn} {P : List Row} (hM : MsP ms) (ht : TurnP ms hs t) (h : LedRows ms hs t P) : ∀ r ∈ P, RowP ms hs.length r := fun r hr =>
  ⟨h.pl r hr, by rw [h.led r hr]; exact led_place hM ht (h.pl r hr)⟩
theorem LedRows.perm {ms hs : List Int} {t : Turn} {P Q : List Row} (h : LedRows ms hs t P) (p : Q.Perm P) : LedRows ms hs t Q :=
  ⟨fun r hr => h.pl r (p.mem_iff.mp hr), fun r hr => h.led r (p.mem_iff.mp hr), (p.map _).nodup_iff.mpr h.nd⟩
theorem PlP.put {ms : List Int} {n a c : Nat} {S : List (List Int)} {t : List Int} (h : PlP ms n a S) (hc : c ≠ a) (ht : TieP ms t) : PlP ms n a (S.set c t) := by
  refine ⟨h.lt, by rw [List.length_set]; exact h.len, fun u hu => ?_, by rw [List.getElem?_set_ne hc]; exact h.own⟩
  rcases List.mem_or_eq_of_mem_set hu with z | rfl
  · exact h.tie u z
  · exact ht
def sd (s : Nat) (r : Row) : Spot := if s = 0 then r.1 else r.2
/-- the rows behind the first one of their stem, with that one's number -/
def idxOf1 (L : List Spot) (a : Nat) : Nat := L.findIdx fun p => decide (p.1 = a)
noncomputable def ledN (P : List Row) (c : Nat) : List (Nat × Nat) :=
  ((List.range c).filter fun i => decide (idxOf1 (P.map (·.1)) (rowAt P i).1.1 < i)).map fun i => (i, idxOf1 (P.map (·.1)) (rowAt P i).1.1)
noncomputable def gapsN (ms : List Int) (P : List Row) (s x : Nat) : List (List Int) :=
  (ledN P P.length).map fun p => lessF ms ((sd s (rowAt P p.1)).2.getD x []) ((sd s (rowAt P p.2)).2.getD x [])
structure Good (ms hs : List Int) (P : List Row) : Prop where
  hue : ∀ r ∈ P, hs.getD r.1.1 0 = hs.getD r.2.1 0
  stem : ∀ r ∈ P, ∀ q ∈ P, (r.1.1 = q.1.1 ↔ r.2.1 = q.2.1)
  tie : ∀ r ∈ P, ∀ q ∈ P, r.1.1 ≠ q.1.1 →
    lessF ms (r.1.2.getD q.1.1 []) (q.1.2.getD r.1.1 []) = lessF ms (r.2.2.getD q.2.1 []) (q.2.2.getD r.2.1 [])
theorem says_tie {ms : List Int} {n a x : Nat} {S : List (List Int)} (h : PlP ms n a S) (hx : x < n) : TieP ms (S.getD x []) := by
  obtain ⟨t, et⟩ := says_get (c := x) h.len hx
  rw [getD_of et]
  exact h.tie t (List.mem_of_getElem? et)
noncomputable def sgA (ms hs : List Int) (P : List Row) (s x : Nat) : Sign := (hs.getD x 0, gapsN ms P s x)
structure PartW (ms : List Int) (n : Nat) (P : List Row) : Prop where
  row : ∀ r ∈ P, RowP ms n r
  nd1 : (P.map (·.1)).Nodup
  nd2 : (P.map (·.2)).Nodup
theorem PartP.weak {ms : List Int} {n : Nat} {P : List Row} (h : PartP ms n P) : PartW ms n P := ⟨h.row, h.nd1, h.nd2⟩
inductive Told (ms hs : List Int) (P : List Row) : Prop where
  | none : firstB ms hs P = .non → allBs ms hs P = [] → Told ms hs P
  | count (c : Sign × Nat × Nat) : firstB ms hs P = dB4 c → rowBs ms hs P = [] → allBs ms hs P ≠ [] → Told ms hs P
  | hue (i : Nat) : firstB ms hs P = dB1 sHue i → i < P.length → firstB ms hs [rowAt P i] = dB1 sHue 0 → allBs ms hs [rowAt P i] ≠ [] → allBs ms hs P ≠ [] → Told ms hs P
  | two (w : Str) (p : Nat × Nat) : firstB ms hs P = dB2 w p → w = sStems ∨ w = sTie → p.1 < P.length → p.2 < P.length → firstB ms hs [rowAt P p.1, rowAt P p.2] = dB2 w (0, 1) →
      allBs ms hs [rowAt P p.1, rowAt P p.2] ≠ [] → allBs ms hs P ≠ [] → Told ms hs P
def preProd8 (ds : List D) : Prop := ∃ ns : List Int, (ds = [.lst (dints ns)] ∨ ds = [.tup (dints ns)]) ∧ ∀ n ∈ ns, 1 ≤ n ∧ n ≤ 200
def fProd8 : List D → D
  | [.tup xs] => .int (D.prod xs)
  | [.lst xs] => .int (D.prod xs)
  | _ => .non
theorem prod_pre8 {xs : List D} (h : xs.all (D.within 2 5) = true) : preProd8 [.tup xs] := by
  obtain ⟨ns, e, hn⟩ := prod_pre h
  exact ⟨ns, .inr e, fun n q => by have := hn n q; omega⟩
noncomputable def likeS : List Sign → List Int
  | [] => []
  | s :: r => (((s :: r).countP fun a => cB (a = s) : Nat) : Int) :: likeS r
def tstep8 (ts : List (List Int)) (m : Int) : List (List Int) :=
  ts.flatMap fun t => (List.range m.toNat).map fun (k : Nat) => t ++ [(k : Int)]
def ties8 (ms : List Int) : List (List Int) := ms.foldl tstep8 [[]]
theorem ties8_snoc (ms : List Int) (m : Int) : ties8 (ms ++ [m]) = tstep8 (ties8 ms) m := by
  unfold ties8
  rw [List.foldl_append]
  rfl
theorem ties8_tie : ∀ (ms : List Int), ∀ t ∈ ties8 ms, t.length = ms.length ∧ ∀ (c : Nat) (m x : Int), ms[c]? = some m → t[c]? = some x → 0 ≤ x ∧ x < m := fun ms => by
  rw [← List.reverse_reverse ms]
  induction ms.reverse with
  | nil =>
    intro t ht
    cases List.mem_singleton.mp ht
    exact ⟨rfl, fun c m x h => by simp at h⟩
  | cons m r ih =>
    intro t ht
    rw [List.reverse_cons] at ht ⊢
    rw [ties8_snoc] at ht
    obtain ⟨u, hu, ht⟩ := List.mem_flatMap.mp ht
    obtain ⟨k, hk, rfl⟩ := List.mem_map.mp ht
    have hk := List.mem_range.mp hk
    have h := ih u hu
    refine ⟨by rw [List.length_append, List.length_append, h.1]; rfl, fun c m' x e1 e2 => ?_⟩
    rcases Nat.lt_or_ge c r.reverse.length with hc | hc
    · rw [List.getElem?_append_left hc] at e1
      rw [List.getElem?_append_left (by rw [h.1]; exact hc)] at e2
      exact h.2 c m' x e1 e2
    · have hl := (List.getElem?_eq_some_iff.mp e1).1
      rw [List.length_append, List.length_singleton] at hl
      have : c = r.reverse.length := by omega
      subst this
      rw [List.getElem?_append_right (Nat.le_refl _), Nat.sub_self] at e1
      rw [← h.1, List.getElem?_append_right (Nat.le_refl _), Nat.sub_self] at e2
      cases e1
      cases e2
      omega
def digR (n : Int) : List Int → List Int
  | [] => []
  | l :: r => n % l :: digR (n / l) r
def digF (n : Int) (L : List Int) : List Int := (digR n L.reverse).reverse
def digN (n : Int) (L : List Int) : List Nat := (digF n L).map Int.toNat
noncomputable abbrev fr1 (ms hs : List Int) (P : List Row) : List (Nat × Sign) := frees ms hs (P.map (·.1))
noncomputable abbrev fr2 (ms hs : List Int) (P : List Row) : List (Nat × Sign) := frees ms hs (P.map (·.2))
def twos8 (F : List Nat) : List (Nat × Nat) := F.flatMap fun s => (F.filter fun l => decide (l < s)).map fun l => (s, l)
noncomputable def prs8 (ms hs : List Int) (P : List Row) : List (Nat × Nat) := twos8 ((fr1 ms hs P).map (·.1))
noncomputable def lims8 (ms hs : List Int) (P : List Row) : List Int :=
  likeS (sgns ms hs (P.map (·.1))) ++ List.replicate (prs8 ms hs P).length (D.prod (dints ms))
theorem free_mem8 {ms hs : List Int} {L : List Spot} {a : Nat × Sign} (h : a ∈ frees ms hs L) : a.1 < hs.length ∧ a.2 = (hs.getD a.1 0, diffs ms L a.1) ∧ firstOf L a.1 = none := by
  obtain ⟨b, hb, rfl⟩ := List.mem_map.mp h
  have hb2 := List.mem_filter.mp hb
  obtain ⟨i, hi⟩ := List.getElem?_of_mem hb2.1
  rw [List.getElem?_zipIdx, Option.map_eq_some_iff] at hi
  obtain ⟨v, e1, e2⟩ := hi
  subst e2
  rw [Nat.zero_add] at hb2 ⊢
  refine ⟨(List.getElem?_eq_some_iff.mp e1).1, ?_, ?_⟩
  · show (v, diffs ms L i) = _
    rw [List.getD_eq_getElem?_getD, e1]
    rfl
  · cases e : firstOf L i with
    | none => rfl
    | some q => have := hb2.2; rw [e] at this; simp at this
theorem free_of {ms hs : List Int} {L : List Spot} {x : Nat} (hx : x < hs.length) (h : firstOf L x = none) : (x, (hs.getD x 0, diffs ms L x)) ∈ frees ms hs L := by
  refine List.mem_map.mpr ⟨(hs.getD x 0, x), List.mem_filter.mpr ⟨?_, ?_⟩, rfl⟩
  · refine List.mem_of_getElem? (i := x) ?_
    rw [List.getElem?_zipIdx, List.getElem?_eq_getElem hx, List.getD_eq_getElem?_getD, List.getElem?_eq_getElem hx]
    simp
  · show (!(firstOf L x).isSome) = true
    rw [h]; rfl
theorem firstOf_none {L : List Spot} {x : Nat} : firstOf L x = none ↔ ∀ p ∈ L, p.1 ≠ x := by
  unfold firstOf
  rw [List.find?_eq_none]
  exact ⟨fun h p hp e => h p hp (decide_eq_true e), fun h p hp e => h p hp (of_decide_eq_true e)⟩
abbrev skey (s : Sign) : List D := [.int s.1, dsays s.2]
theorem skey_inj {s t : Sign} (h : skey s = skey t) : s = t := dsign_inj (congrArg D.tup h)
abbrev Pool := Sign → List Nat
structure Rep (kvs : List BxL) (pool : Pool) : Prop where
  nd : (kvs.map (·.1)).Nodup
  of : ∀ q ∈ kvs, ∃ s, q = (skey s, dnats (pool s))
  has : ∀ s, pool s ≠ [] → (skey s, dnats (pool s)) ∈ kvs
noncomputable def pool0 (F : List (Nat × Sign)) : Pool := fun s => (F.filter fun a => cB (a.2 = s)).map (·.1)
open Classical in
noncomputable def poolAdd (pool : Pool) (s : Sign) (x : Nat) : Pool := fun t => if t = s then pool t ++ [x] else pool t
open Classical in
noncomputable def poolDrop (pool : Pool) (s : Sign) (d : Nat) : Pool := fun t => if t = s then (pool t).eraseIdx d else pool t
theorem Rep.add {kvs : List BxL} {pool : Pool} (h : Rep kvs pool) (s : Sign) (x : Nat) : Rep (pushB kvs (skey s) (.int x)) (poolAdd pool s x) := by
  have same : ∀ t, poolAdd pool s x t = if t = s then pool t ++ [x] else pool t := fun t => by
    unfold poolAdd
    split <;> rfl
  by_cases e : skey s ∈ kvs.map (·.1)
  · rw [pushB_in e]
    have keys : ∀ q : BxL, (pushQ (skey s) (.int x) q).1 = q.1 := fun q => by
      by_cases z : q.1 = skey s
      · rw [pushQ_pos z]
      · rw [pushQ_neg z]
    have vals : ∀ t, pushQ (skey s) (.int x) (skey t, dnats (pool t)) = (skey t, dnats (poolAdd pool s x t)) := fun t => by
      by_cases z : t = s
      · subst z
        rw [pushQ_pos (q := (skey t, dnats (pool t))) rfl, same, if_pos rfl]
        show (skey t, dnats (pool t) ++ [.int x]) = _
        rw [dnats, dnats, List.map_append]
        rfl
      · rw [pushQ_neg fun c => z (skey_inj c), same, if_neg z]
    refine ⟨?_, fun q hq => ?_, fun t ht => ?_⟩
    · rw [List.map_map]
      have : ((fun q : BxL => q.1) ∘ pushQ (skey s) (.int x)) = fun q => q.1 := funext keys
      rw [this]
      exact h.nd
    · obtain ⟨q0, hq0, rfl⟩ := List.mem_map.mp hq
      obtain ⟨t, rfl⟩ := h.of q0 hq0
      exact ⟨t, vals t⟩
    · refine List.mem_map.mpr ⟨(skey t, dnats (pool t)), ?_, vals t⟩
      by_cases z : t = s
      · subst z
        obtain ⟨q0, hq0, e0⟩ := List.mem_map.mp e
        obtain ⟨u, rfl⟩ := h.of q0 hq0
        cases skey_inj e0
        exact hq0
      · rw [same, if_neg z] at ht
        exact h.has t ht
  · rw [pushB_out e]
    have hp : pool s = [] := Classical.byContradiction fun z => e (List.mem_map.mpr ⟨_, h.has s z, rfl⟩)
    refine ⟨?_, fun q hq => ?_, fun t ht => ?_⟩
    · rw [List.map_append, List.nodup_append]
      refine ⟨h.nd, by simp, fun a ha b hb => ?_⟩
      have hb : b = skey s := by simpa using hb
      rintro rfl
      exact e (hb ▸ ha)
    · rcases List.mem_append.mp hq with hq | hq
      · obtain ⟨t, rfl⟩ := h.of q hq
        refine ⟨t, ?_⟩
        rw [same, if_neg fun z => e (List.mem_map.mpr ⟨_, hq, by rw [z]⟩)]
      · cases List.mem_singleton.mp hq
        refine ⟨s, ?_⟩
        rw [same, if_pos rfl, hp]
        rfl
    · by_cases z : t = s
      · subst z
        rw [same, if_pos rfl, hp]
        exact List.mem_append_right _ (List.mem_singleton.mpr rfl)
      · rw [same, if_neg z] at ht ⊢
        exact List.mem_append_left _ (h.has t ht)
theorem Rep.drop {kvs : List BxL} {pool : Pool} (h : Rep kvs pool) (s : Sign) (d : Nat) (hs : pool s ≠ []) : Rep (kvs.map (putQ (skey s) ((dnats (pool s)).eraseIdx d))) (poolDrop pool s d) := by
  have same : ∀ t, poolDrop pool s d t = if t = s then (pool t).eraseIdx d else pool t := fun t => by
    unfold poolDrop
    split <;> rfl
  have keys : ∀ q : BxL, (putQ (skey s) ((dnats (pool s)).eraseIdx d) q).1 = q.1 := fun q => by
    by_cases z : q.1 = skey s
    · rw [putQ_pos z]
    · rw [putQ_neg z]
  have er : ∀ (L : List Nat) (d : Nat), (dnats L).eraseIdx d = dnats (L.eraseIdx d) := by
    intro L
    induction L with
    | nil => intro d; rfl
    | cons a L ih =>
      intro d
      cases d with
      | zero => rfl
      | succ d => show D.int a :: (dnats L).eraseIdx d = D.int a :: dnats (L.eraseIdx d); rw [ih]
  have vals : ∀ t, putQ (skey s) ((dnats (pool s)).eraseIdx d) (skey t, dnats (pool t)) = (skey t, dnats (poolDrop pool s d t)) := fun t => by
    by_cases z : t = s
    · subst z
      rw [putQ_pos (q := (skey t, dnats (pool t))) rfl, same, if_pos rfl, er]
    · rw [putQ_neg fun c => z (skey_inj c), same, if_neg z]
  refine ⟨?_, fun q hq => ?_, fun t ht => ?_⟩
  · rw [List.map_map]
    have : ((fun q : BxL => q.1) ∘ putQ (skey s) ((dnats (pool s)).eraseIdx d)) = fun q => q.1 := funext keys
    rw [this]
    exact h.nd
  · obtain ⟨q0, hq0, rfl⟩ := List.mem_map.mp hq
    obtain ⟨t, rfl⟩ := h.of q0 hq0
    exact ⟨t, vals t⟩
  · refine List.mem_map.mpr ⟨(skey t, dnats (pool t)), h.has t ?_, vals t⟩
    by_cases z : t = s
    · subst z; exact hs
    · rwa [same, if_neg z] at ht
/-- what is left as the free stems ahead take theirs -/
noncomputable def poolAt (F : List (Nat × Sign)) (G : List Nat) (pool : Pool) : Nat → Pool
  | 0 => pool
  | c + 1 => poolDrop (poolAt F G pool c) ((F.map (·.2)).getD c (0, [])) (G.getD c 0)
structure LeadC (ms hs : List Int) (P : List Row) (G : List Nat) (L : Nat → Nat) : Prop where
  told : ∀ r ∈ P, L r.1.1 = r.2.1
  pick : ∀ (c : Nat) a d, (fr1 ms hs P)[c]? = some a → G[c]? = some d → (poolAt (fr1 ms hs P) G (pool0 (fr2 ms hs P)) c a.2)[d]? = some (L a.1)
  len : G.length = (fr1 ms hs P).length
theorem poolDrop_sub {pool : Pool} {s t : Sign} {d x : Nat} (h : x ∈ poolDrop pool s d t) : x ∈ pool t := by
  unfold poolDrop at h
  split at h
  · exact List.mem_of_mem_eraseIdx h
  · exact h
theorem poolAt_sub {F : List (Nat × Sign)} {G : List Nat} {pool : Pool} {t : Sign} {x : Nat} : ∀ {c : Nat}, x ∈ poolAt F G pool c t → x ∈ pool t
  | 0, h => h
  | c + 1, h => poolAt_sub (c := c) (poolDrop_sub h)
theorem pool0_mem {F : List (Nat × Sign)} {t : Sign} {x : Nat} (h : x ∈ pool0 F t) : (x, t) ∈ F := by
  obtain ⟨a, ha, rfl⟩ := List.mem_map.mp h
  have ha := List.mem_filter.mp ha
  have : a.2 = t := Classical.byContradiction fun z => by rw [cB_false z] at ha; exact Bool.false_ne_true ha.2
  rw [← this]
  exact ha.1
theorem LeadC.lt {ms hs : List Int} {P : List Row} {G : List Nat} {L : Nat → Nat} (h : LeadC ms hs P G L) (hP : RowsP ms hs P) {x : Nat} (hx : x < hs.length) : L x < hs.length := by
  cases e : firstOf (P.map (·.1)) x with
  | some p =>
    have hm := List.mem_of_find?_eq_some e
    have hq := of_decide_eq_true (List.find?_some (p := fun q : Spot => decide (q.1 = x)) e)
    obtain ⟨r, hr, rfl⟩ := List.mem_map.mp hm
    rw [← hq, h.told r hr]
    exact (hP.row r hr).snd.lt
  | none =>
    obtain ⟨c, hc⟩ := List.getElem?_of_mem (free_of (ms := ms) hx e)
    have hl := (List.getElem?_eq_some_iff.mp hc).1
    have := h.pick c _ _ hc (List.getElem?_eq_getElem (by rw [h.len]; exact hl))
    have := pool0_mem (poolAt_sub (List.mem_of_getElem? this))
    exact (free_mem8 this).1
structure MoveC (ms hs : List Int) (P : List Row) (Ls G : List Nat) (M : Nat → Nat → List Int) : Prop where
  row : ∀ r ∈ P, ∀ e < hs.length, e ≠ r.1.1 → M (max r.1.1 e) (min r.1.1 e) = lessF ms (r.2.2.getD (Ls.getD e 0) []) (r.1.2.getD e [])
  free : ∀ (c : Nat) p d, (prs8 ms hs P)[c]? = some p → G[c]? = some d → (ties8 ms)[d]? = some (M p.1 p.2)
  len : G.length = (prs8 ms hs P).length
def tabM (n : Nat) (M : Nat → Nat → List Int) : List (List (List Int)) := (List.range n).map fun x => (List.range x).map fun y => M x y
structure WayC (ms hs : List Int) (P : List Row) (n : Int) (L : Nat → Nat) (M : Nat → Nat → List Int) : Prop where
  lead : LeadC ms hs P ((digN n (lims8 ms hs P)).take (fr1 ms hs P).length) L
  move : MoveC ms hs P ((List.range hs.length).map L) ((digN n (lims8 ms hs P)).drop (fr1 ms hs P).length) M
section
variable {K : PySem.W.Frag} {l : Option Addr} {ρ : Ro} {m : Nat} {Nx : Nat → Ro → Prop} {Rt : Nat → D → Prop}
theorem s_retOwn8 {i : Nat} {ds : List D} (hi : ρ[i]? = some (some (.own ds))) (q : Rt m (.lst ds)) : SvC K l (tRet (tVar i)) ρ m Nx Rt :=
  s_freeze hi (s_ret (e_var (List.getElem?_set_self (List.getElem?_eq_some_iff.mp hi).1) q))
end
/-- what a dict of leads holds -/
structure LdK (kvs : List (Int × D)) (L : Nat → Nat) (S : Nat → Prop) : Prop where
  ok : ∀ (x : Nat) y, dval kvs (x : Int) = some y → y = .int (L x : Nat)
  has : ∀ x, S x → (dval kvs (x : Int)).isSome = true
theorem LdK.put {kvs : List (Int × D)} {L : Nat → Nat} {S : Nat → Prop} (h : LdK kvs L S) (x : Nat) : LdK (dputI kvs (x : Nat) (.int (L x : Nat))) L fun z => S z ∨ z = x := by
  refine ⟨fun z y e => ?_, fun z hz => ?_⟩
  · rw [dval_put] at e
    by_cases q : (x : Int) = z
    · rw [if_pos q] at e
      have : x = z := by omega
      subst this
      exact (Option.some.inj e).symm
    · rw [if_neg q] at e
      exact h.ok z y e
  · rw [dval_put]
    by_cases q : (x : Int) = z
    · rw [if_pos q]; rfl
    · rw [if_neg q]
      exact h.has z (hz.resolve_right fun e => q (by rw [e]))
abbrev pkey (p : Nat × Nat) : List D := [.int p.1, .int p.2]
theorem pkey_inj {p q : Nat × Nat} (h : pkey p = pkey q) : p = q := by
  have h1 := (List.cons.inj h).1
  have h2 := (List.cons.inj (List.cons.inj h).2).1
  have e1 := D.int.inj h1
  have e2 := D.int.inj h2
  exact Prod.ext (by omega) (by omega)
theorem frees_nd (ms hs : List Int) (L : List Spot) : ((frees ms hs L).map (·.1)).Nodup := by
  unfold frees
  rw [List.map_map]
  have h1 : (hs.zipIdx.map (·.2)).Nodup := by
    rw [List.zipIdx_map_snd]
    exact List.nodup_range' ..
  exact List.Nodup.sublist (List.Sublist.map _ (List.filter_sublist)) h1
structure MvK (kvs : List (List D × D)) (M : Nat → Nat → List Int) (S : Nat × Nat → Prop) : Prop where
  nd : (kvs.map (·.1)).Nodup
  ok : ∀ q ∈ kvs, ∃ p : Nat × Nat, q = (pkey p, .tup (dints (M p.1 p.2)))
  has : ∀ p, S p → (pkey p, .tup (dints (M p.1 p.2))) ∈ kvs
open Classical in
theorem MvK.put {kvs : List (List D × D)} {M : Nat → Nat → List Int} {S : Nat × Nat → Prop} (h : MvK kvs M S) (p : Nat × Nat) :
    MvK (putV kvs (pkey p) (.tup (dints (M p.1 p.2)))) M fun z => S z ∨ z = p := by
  by_cases e : pkey p ∈ kvs.map (·.1)
  · have same : putV kvs (pkey p) (.tup (dints (M p.1 p.2))) = kvs := by
      rw [putV_in e]
      conv => rhs; rw [← List.map_id kvs]
      refine List.map_congr_left fun q hq => ?_
      show (if q.1 = pkey p then (q.1, D.tup (dints (M p.1 p.2))) else q) = q
      split
      · rename_i z
        obtain ⟨p2, rfl⟩ := h.ok q hq
        cases pkey_inj z
        rfl
      · rfl
    rw [same]
    refine ⟨h.nd, h.ok, fun z hz => ?_⟩
    rcases hz with hz | rfl
    · exact h.has z hz
    · obtain ⟨q, hq, e1⟩ := List.mem_map.mp e
      obtain ⟨p2, rfl⟩ := h.ok q hq
      cases pkey_inj e1
      exact hq
  · refine ⟨putV_nd h.nd, ?_, ?_⟩
    · rw [putV_out e]
      intro q hq
      rcases List.mem_append.mp hq with hq | hq
      · exact h.ok q hq
      · exact ⟨p, List.mem_singleton.mp hq⟩
    · rw [putV_out e]
      intro z hz
      rcases hz with hz | rfl
      · exact List.mem_append_left _ (h.has z hz)
      · exact List.mem_append_right _ (List.mem_singleton.mpr rfl)
/-- what is settled when c rows are gone through -/
def MvS (ms hs : List Int) (P : List Row) (c : Nat) (p : Nat × Nat) : Prop :=
  p ∈ prs8 ms hs P ∨ ∃ i < c, ∃ r, P[i]? = some r ∧ ∃ e < hs.length, e ≠ r.1.1 ∧ p = (max r.1.1 e, min r.1.1 e)
theorem twos8_mem {F : List Nat} {p : Nat × Nat} : p ∈ twos8 F ↔ p.1 ∈ F ∧ p.2 ∈ F ∧ p.2 < p.1 := by
  unfold twos8
  rw [List.mem_flatMap]
  constructor
  · rintro ⟨s, hs, hp⟩
    obtain ⟨l, hl, rfl⟩ := List.mem_map.mp hp
    rw [List.mem_filter] at hl
    exact ⟨hs, hl.1, of_decide_eq_true hl.2⟩
  · rintro ⟨h1, h2, h3⟩
    exact ⟨p.1, h1, List.mem_map.mpr ⟨p.2, List.mem_filter.mpr ⟨h2, decide_eq_true h3⟩, rfl⟩⟩
theorem told_or_free {ms hs : List Int} {P : List Row} {x : Nat} (hx : x < hs.length) : (∃ i < P.length, ∃ r, P[i]? = some r ∧ r.1.1 = x) ∨ x ∈ (fr1 ms hs P).map (·.1) := by
  cases e : firstOf (P.map (·.1)) x with
  | some p =>
    have hm := List.mem_of_find?_eq_some e
    have hq := of_decide_eq_true (List.find?_some (p := fun q : Spot => decide (q.1 = x)) e)
    obtain ⟨r, hr, rfl⟩ := List.mem_map.mp hm
    obtain ⟨i, hi⟩ := List.getElem?_of_mem hr
    exact .inl ⟨i, (List.getElem?_eq_some_iff.mp hi).1, r, hi, hq⟩
  | none => exact .inr (List.mem_map.mpr ⟨_, free_of (ms := ms) hx e, rfl⟩)
theorem mvS_all {ms hs : List Int} {P : List Row} (hP : RowsP ms hs P) {x y : Nat} (hx : x < hs.length) (hy : y < x) : MvS ms hs P P.length (x, y) := by
  rcases told_or_free (ms := ms) (P := P) hx with ⟨i, hi, r, hr, e⟩ | h1
  · refine .inr ⟨i, hi, r, hr, y, by omega, by omega, ?_⟩
    rw [e, Nat.max_eq_left (by omega), Nat.min_eq_right (by omega)]
  · rcases told_or_free (ms := ms) (P := P) (x := y) (show y < hs.length by omega) with ⟨i, hi, r, hr, e⟩ | h2
    · refine .inr ⟨i, hi, r, hr, x, hx, by omega, ?_⟩
      rw [e, Nat.max_eq_right (by omega), Nat.min_eq_left (by omega)]
    · exact .inl (twos8_mem.mpr ⟨h1, h2, hy⟩)
theorem sum_less10 {ms x y : List Int} (hM : MsP ms) (hx : TieP ms x) (hy : TieP ms y) : sumF ms x (lessF ms y x) = y := by
  refine tie_ext (sum_tie hM hx (less_tie hM hy hx)).1 hy.1 fun c m em => ?_
  obtain ⟨a, ea, a1, a2⟩ := tget hx em
  obtain ⟨b, eb, b1, b2⟩ := tget hy em
  rw [sum_get em ea (less_get em eb ea), eb, Int.add_emod, Int.emod_emod_of_dvd _ (Int.dvd_refl m), ← Int.add_emod, show a + (b - a) = b by omega, Int.emod_eq_of_lt b1 b2]
theorem nd_at10 {α : Type} {L : List α} (h : L.Nodup) {i j : Nat} {x : α} (hi : L[i]? = some x) (hj : L[j]? = some x) : i = j := by
  obtain ⟨li, ei⟩ := List.getElem?_eq_some_iff.mp hi
  obtain ⟨lj, ej⟩ := List.getElem?_eq_some_iff.mp hj
  rcases Nat.lt_trichotomy i j with q | q | q
  · exact absurd (ei.trans ej.symm) (List.pairwise_iff_getElem.mp h i j li lj q)
  · exact q
  · exact absurd (ej.trans ei.symm) (List.pairwise_iff_getElem.mp h j i lj li q)
theorem pool_nd {F F2 : List (Nat × Sign)} {G : List Nat} (h : (F2.map (·.1)).Nodup) : ∀ c s, (poolAt F G (pool0 F2) c s).Nodup
  | 0, s => h.sublist (List.Sublist.map _ List.filter_sublist)
  | c + 1, s => by
    show (poolDrop _ _ _ s).Nodup
    unfold poolDrop
    split
    · exact (pool_nd h c s).sublist (List.eraseIdx_sublist _ _)
    · exact pool_nd h c s
theorem pool_mono {F : List (Nat × Sign)} {G : List Nat} {pool : Pool} {t : Sign} {x : Nat} {c : Nat} : ∀ d, x ∈ poolAt F G pool (c + d) t → x ∈ poolAt F G pool c t
  | 0, h => h
  | d + 1, h => pool_mono d (poolDrop_sub h)
/-- who was picked is gone -/
theorem pool_gone {F F2 : List (Nat × Sign)} {G : List Nat} (h : (F2.map (·.1)).Nodup) {c g x : Nat} {a : Nat × Sign} {t : Sign} (ha : F[c]? = some a) (hg : G[c]? = some g)
    (hx : (poolAt F G (pool0 F2) c a.2)[g]? = some x) : x ∉ poolAt F G (pool0 F2) (c + 1) t := fun hm => by
  have e1 : (F.map (·.2)).getD c (0, []) = a.2 := by rw [List.getD_eq_getElem?_getD, List.getElem?_map, ha]; rfl
  have e2 : G.getD c 0 = g := by rw [List.getD_eq_getElem?_getD, hg]; rfl
  have hm2 : x ∈ poolDrop (poolAt F G (pool0 F2) c) a.2 g t := by
    rw [← e1, ← e2]
    exact hm
  have m1 := pool0_mem (poolAt_sub (List.mem_of_getElem? hx))
  have m2 := pool0_mem (poolAt_sub (poolDrop_sub hm2))
  have : a.2 = t := by
    obtain ⟨i, hi⟩ := List.getElem?_of_mem m1
    obtain ⟨j, hj⟩ := List.getElem?_of_mem m2
    have hi' : (F2.map (·.1))[i]? = some x := by rw [List.getElem?_map, hi]; rfl
    have hj' : (F2.map (·.1))[j]? = some x := by rw [List.getElem?_map, hj]; rfl
    have hij : i = j := nd_at10 h hi' hj'
    subst hij
    rw [hi] at hj
    exact congrArg Prod.snd (Option.some.inj hj)
  subst this
  unfold poolDrop at hm2
  rw [if_pos rfl] at hm2
  obtain ⟨i, hi, hne, e⟩ := List.mem_eraseIdx_iff_getElem.mp hm2
  exact hne (nd_at10 (pool_nd h c a.2) (by rw [List.getElem?_eq_getElem hi, e]) hx)
structure NoBar (ms hs : List Int) (P : List Row) : Prop where
  rows : ∀ r ∈ P, RowP ms hs.length r
  good : Good ms hs P
  perm : (sgns ms hs (P.map (·.1))).Perm (sgns ms hs (P.map (·.2)))
  one : ∀ a ∈ fr1 ms hs P, a.2 = sgA ms hs P 0 a.1
  two : ∀ a ∈ fr2 ms hs P, a.2 = sgA ms hs P 1 a.1
theorem countP_map_sign (F : List (Nat × Sign)) (s : Sign) : (F.countP fun a => cB (a.2 = s)) = (F.map (·.2)).countP fun a => cB (a = s) := by
  rw [List.countP_map]
  rfl
theorem NoBar.pool0 {ms hs : List Int} {P : List Row} (h : NoBar ms hs P) (s : Sign) : (Wl.pool0 (fr2 ms hs P) s).length = (fr1 ms hs P).countP fun a => cB (a.2 = s) := by
  have e1 : (Wl.pool0 (fr2 ms hs P) s).length = (fr2 ms hs P).countP fun a => cB (a.2 = s) := by
    unfold Wl.pool0
    rw [List.length_map, List.countP_eq_length_filter]
  rw [e1, countP_map_sign, countP_map_sign]
  exact (List.Perm.countP_eq _ h.perm).symm
theorem NoBar.free_at {ms hs : List Int} {P : List Row} {G : List Nat} {L : Nat → Nat} (hL : LeadC ms hs P G L) {x : Nat} (hx : x ∈ (fr1 ms hs P).map (·.1)) :
    ∃ (c : Nat) (a : Nat × Sign) (g : Nat), (fr1 ms hs P)[c]? = some a ∧ G[c]? = some g ∧ a.1 = x ∧ (poolAt (fr1 ms hs P) G (Wl.pool0 (fr2 ms hs P)) c a.2)[g]? = some (L x) ∧ (L x, a.2) ∈ fr2 ms hs P := by
  obtain ⟨a, ha, rfl⟩ := List.mem_map.mp hx
  obtain ⟨c, hc⟩ := List.getElem?_of_mem ha
  have hcl := (List.getElem?_eq_some_iff.mp hc).1
  have hg := List.getElem?_eq_getElem (show c < G.length by rw [hL.len]; exact hcl)
  have hp := hL.pick c a _ hc hg
  exact ⟨c, a, _, hc, hg, rfl, hp, pool0_mem (poolAt_sub (List.mem_of_getElem? hp))⟩
theorem NoBar.inj {ms hs : List Int} {P : List Row} (h : NoBar ms hs P) {G : List Nat} {L : Nat → Nat} (hL : LeadC ms hs P G L) {x y : Nat} (hx : x < hs.length) (hy : y < hs.length) (e : L x = L y) : x = y := by
  have tf : ∀ {x y : Nat}, (∃ i < P.length, ∃ r, P[i]? = some r ∧ r.1.1 = x) → y ∈ (fr1 ms hs P).map (·.1) → L x = L y → False := by
    rintro x y ⟨i, hi, r, hr, rfl⟩ hy e
    have hrm := List.mem_of_getElem? hr
    obtain ⟨c, a, g, _, _, _, _, hm⟩ := NoBar.free_at hL hy
    rw [hL.told r hrm] at e
    exact firstOf_none.mp (free_mem8 hm).2.2 r.2 (List.mem_map.mpr ⟨r, hrm, rfl⟩) e
  rcases told_or_free (ms := ms) (P := P) hx with h1 | h1
  · rcases told_or_free (ms := ms) (P := P) hy with h2 | h2
    · obtain ⟨i, hi, r, hr, rfl⟩ := h1
      obtain ⟨j, hj, q, hq, rfl⟩ := h2
      have m1 := List.mem_of_getElem? hr
      have m2 := List.mem_of_getElem? hq
      rw [hL.told r m1, hL.told q m2] at e
      exact (h.good.stem r m1 q m2).mpr e
    · exact (tf h1 h2 e).elim
  · rcases told_or_free (ms := ms) (P := P) hy with h2 | h2
    · exact (tf h2 h1 e.symm).elim
    · obtain ⟨c, a, g, ha, hg, ea, hp, _⟩ := NoBar.free_at hL h1
      obtain ⟨d, b, k, hb, hk, eb, hq, _⟩ := NoBar.free_at hL h2
      have nd := frees_nd ms hs (P.map (·.2))
      have later : ∀ {c d : Nat} {a b : Nat × Sign} {g k x y : Nat}, (fr1 ms hs P)[c]? = some a → G[c]? = some g → (poolAt (fr1 ms hs P) G (Wl.pool0 (fr2 ms hs P)) c a.2)[g]? = some x →
          (poolAt (fr1 ms hs P) G (Wl.pool0 (fr2 ms hs P)) d b.2)[k]? = some y → x = y → c < d → False := by
        intro c d a b g k x y ha hg hp hq e hcd
        subst e
        have hm := List.mem_of_getElem? hq
        obtain ⟨u, rfl⟩ : ∃ u, d = c + 1 + u := ⟨d - (c + 1), by omega⟩
        exact pool_gone nd ha hg hp (pool_mono u hm)
      rcases Nat.lt_trichotomy c d with q | q | q
      · exact (later ha hg hp hq e q).elim
      · subst q
        rw [ha] at hb
        cases hb
        rw [← ea, ← eb]
      · exact (later hb hk hq hp e.symm q).elim
theorem NoBar.hue {ms hs : List Int} {P : List Row} (h : NoBar ms hs P) {G : List Nat} {L : Nat → Nat} (hL : LeadC ms hs P G L) {x : Nat} (hx : x < hs.length) : hs.getD x 0 = hs.getD (L x) 0 := by
  rcases told_or_free (ms := ms) (P := P) hx with ⟨i, hi, r, hr, rfl⟩ | h1
  · have m1 := List.mem_of_getElem? hr
    rw [hL.told r m1]
    exact h.good.hue r m1
  · obtain ⟨c, a, g, ha, _, rfl, _, hm⟩ := NoBar.free_at hL h1
    have e1 := (free_mem8 (List.mem_of_getElem? ha)).2.1
    have e2 := (free_mem8 hm).2.1
    have := e1.symm.trans e2
    exact congrArg Prod.fst this
theorem NoBar.lead {ms hs : List Int} {P : List Row} (h : NoBar ms hs P) (hR : RowsP ms hs P) {G : List Nat} {L : Nat → Nat} (hL : LeadC ms hs P G L) : LeadP hs ((List.range hs.length).map L) := by
  refine ⟨by rw [List.length_map, List.length_range], ?_, fun x y e => ?_⟩
  · unfold List.Nodup
    rw [List.pairwise_map]
    refine List.Pairwise.imp_of_mem (fun {i j} hi hj z e => ?_) List.pairwise_lt_range
    have := h.inj hL (List.mem_range.mp hi) (List.mem_range.mp hj) e
    omega
  · have hx : x < hs.length := by
      have := (List.getElem?_eq_some_iff.mp e).1
      rwa [List.length_map, List.length_range] at this
    rw [List.getElem?_map, List.getElem?_range hx] at e
    cases e
    have hlt := hL.lt hR hx
    refine ⟨hlt, ?_⟩
    have := h.hue hL hx
    rw [List.getD_eq_getElem?_getD, List.getD_eq_getElem?_getD, List.getElem?_eq_getElem hx, List.getElem?_eq_getElem hlt] at this
    rw [List.getElem?_eq_getElem hx, List.getElem?_eq_getElem hlt]
    exact congrArg some this.symm
/-- what a row settles of its stem and another one -/
def stF (ms : List Int) (L : Nat → Nat) (r : Row) (e : Nat) : List Int := lessF ms (r.2.2.getD (L e) []) (r.1.2.getD e [])
theorem NoBar.st_tie {ms hs : List Int} {P : List Row} (hM : MsP ms) (h : NoBar ms hs P) (hR : RowsP ms hs P) {G : List Nat} {L : Nat → Nat} (hL : LeadC ms hs P G L) {r : Row} (hr : r ∈ P) {e : Nat} (he : e < hs.length) : TieP ms (stF ms L r e) :=
  less_tie hM (says_tie (h.rows r hr).snd (hL.lt hR he)) (says_tie (h.rows r hr).fst he)
theorem leads_getD {n : Nat} {L : Nat → Nat} {e : Nat} (he : e < n) : ((List.range n).map L).getD e 0 = L e := by
  rw [List.getD_eq_getElem?_getD, List.getElem?_map, List.getElem?_range he]
  rfl
theorem tabM_tt10 {n : Nat} {M : Nat → Nat → List Int} {x y : Nat} (hx : x < n) (hy : y < x) : tt (tabM n M) x y = M x y := by
  refine tt_of (r := (List.range x).map fun y => M x y) ?_ ?_
  · unfold tabM
    rw [List.getElem?_map, List.getElem?_range hx]; rfl
  · rw [List.getElem?_map, List.getElem?_range hy]; rfl
theorem tabM_tab10 {ms : List Int} {n : Nat} {M : Nat → Nat → List Int} (h : ∀ x y, x < n → y < x → TieP ms (M x y)) : TabP ms n (tabM n M) := by
  refine ⟨by rw [tabM, List.length_map, List.length_range], fun i r e => ?_⟩
  have hi : i < n := by
    have := (List.getElem?_eq_some_iff.mp e).1
    rw [tabM, List.length_map, List.length_range] at this
    exact this
  unfold tabM at e
  rw [List.getElem?_map, List.getElem?_range hi] at e
  cases e
  refine ⟨by rw [List.length_map, List.length_range], fun t ht => ?_⟩
  obtain ⟨y, hy, rfl⟩ := List.mem_map.mp ht
  exact h i y hi (List.mem_range.mp hy)
/-- a way of a part without bars is a turning that leads as the rows want -/
theorem NoBar.turn {ms hs : List Int} {P : List Row} (hM : MsP ms) (h : NoBar ms hs P) (hR : RowsP ms hs P) {n : Int} {L : Nat → Nat} {M : Nat → Nat → List Int} (hW : WayC ms hs P n L M) :
    TurnP ms hs ((List.range hs.length).map L, tabM hs.length M) ∧ ∀ r ∈ P, ledP ms ((List.range hs.length).map L, tabM hs.length M) r.1 = r.2 := by
  have hL := hW.lead
  have hrow : ∀ r ∈ P, ∀ e < hs.length, e ≠ r.1.1 → M (max r.1.1 e) (min r.1.1 e) = stF ms L r e := fun r hr e he hne => by
    have := hW.move.row r hr e he hne
    rw [leads_getD he] at this
    exact this
  have hmt : ∀ x y, x < hs.length → y < x → TieP ms (M x y) := fun x y hx hy => by
    rcases mvS_all (ms := ms) hR hx hy with hp | ⟨i, hi, r, hr, e, he, hne, hxy⟩
    · obtain ⟨c, hc⟩ := List.getElem?_of_mem hp
      have hcl := (List.getElem?_eq_some_iff.mp hc).1
      have hg := List.getElem?_eq_getElem (show c < ((digN n (lims8 ms hs P)).drop (fr1 ms hs P).length).length by rw [hW.move.len]; exact hcl)
      have := List.mem_of_getElem? (hW.move.free c _ _ hc hg)
      exact ties8_tie ms _ this
    · have hrm := List.mem_of_getElem? hr
      have e1 : x = max r.1.1 e := congrArg Prod.fst hxy
      have e2 : y = min r.1.1 e := congrArg Prod.snd hxy
      rw [e1, e2, hrow r hrm e he hne]
      exact h.st_tie hM hR hL hrm he
  have ht : TurnP ms hs ((List.range hs.length).map L, tabM hs.length M) := ⟨h.lead hR hL, tabM_tab10 hmt⟩
  refine ⟨ht, fun r hr => ?_⟩
  have h1 := (h.rows r hr).fst
  have h2 := (h.rows r hr).snd
  have e0 : L r.1.1 = r.2.1 := hL.told r hr
  have hgs : ((List.range hs.length).map L).getD r.1.1 0 = r.2.1 := by rw [leads_getD h1.lt, e0]
  refine Prod.ext hgs ?_
  refine List.ext_getElem? fun c => ?_
  rcases Nat.lt_or_ge c hs.length with hc | hc
  · obtain ⟨b, hb, hb2⟩ := ht.lead.surj hc
    have hb2' : ((List.range hs.length).map L)[b]? = some c := hb2
    have hcb : L b = c := by
      rw [List.getElem?_map, List.getElem?_range hb] at hb2'
      exact Option.some.inj hb2'
    have lg := led_get (a := r.1.1) (S := r.1.2) ht h1 hb2
    have lg : (ledP ms ((List.range hs.length).map L, tabM hs.length M) r.1).2[c]? = some (if b = r.1.1 then zt ms else sumF ms (r.1.2.getD b []) (tabT (tabM hs.length M) r.1.1 b)) := lg
    rw [lg]
    by_cases e : b = r.1.1
    · rw [if_pos e]
      have := h2.own
      rw [← e0, ← e, hcb] at this
      exact this.symm
    · rw [if_neg e]
      obtain ⟨t, ht2⟩ := says_get (c := c) h2.len hc
      rw [ht2]
      congr 1
      have htab : tabT (tabM hs.length M) r.1.1 b = stF ms L r b := by
        rw [← hrow r hr b hb e]
        unfold tabT
        split
        · rename_i q
          rw [tabM_tt10 h1.lt q, Nat.max_eq_left (by omega), Nat.min_eq_right (by omega)]
        · rename_i q
          rw [tabM_tt10 hb (by omega), Nat.max_eq_right (by omega), Nat.min_eq_left (by omega)]
      rw [htab]
      unfold stF
      rw [sum_less10 hM (says_tie h1 hb) (by rw [hcb]; exact says_tie h2 hc), hcb]
      exact getD_of ht2
  · have l1 := (led_place hM ht (p := r.1) h1).len
    rw [List.getElem?_eq_none (by rw [l1]; exact hc), List.getElem?_eq_none (by rw [h2.len]; exact hc)]

section
variable {K : PySem.W.Frag} {l : Option Addr} {w : World} {i : Nat} {t1 t2 tr : TS} {ρ : Ro} {m : Nat} {Nx0 : Nat → Ro → Prop} {Rt : Nat → D → Prop} {tA : TA}
end

def SpOfV (K : PySem.W.Frag) : Sp := fun vs H Q _ => ∃ (l a : Addr) (xs : List V) (B : Hp) (m : Nat), vs = [.ref l, .ref a] ∧ Same B H ∧ Hand H l m ∧ B l = none ∧ (SqL K H a xs ∨ SqT K H a xs) ∧ a ≠ l ∧
  m < 10000000 ∧ xs ≠ [] ∧ xs.length < 1000000 ∧ ∀ v m' B2 H2, v ∈ xs → m' ≤ m + 1 → Hand H2 l m' → Same B B2 → Same B2 H2 → (∀ b o, b ≠ l → H b = some o → H2 b = some o) → (∀ b, H b ≠ none → B b = none → B2 b = none) → Q v H2
theorem sq_keep {K : PySem.W.Frag} {H H2 : Hp} {a l : Addr} {xs : List V} (n : a ≠ l) (k : ∀ b o, b ≠ l → H b = some o → H2 b = some o) (h : SqL K H a xs ∨ SqT K H a xs) : SqL K H2 a xs ∨ SqT K H2 a xs := by
  rcases h with h | h
  · refine .inl ?_
    rcases h with (h | ⟨o, h⟩) | h
    · exact .inl (.inl (k _ _ n h))
    · exact .inl (.inr ⟨o, k _ _ n h⟩)
    · exact .inr h
  · refine .inr ?_
    rcases h with (h | ⟨o, h⟩) | h
    · exact .inl (.inl (k _ _ n h))
    · exact .inl (.inr ⟨o, k _ _ n h⟩)
    · exact .inr h
section
variable {K : PySem.W.Frag} {l : Option Addr} {ρ : Ro} {m : Nat} {Φ : Nat → D → Prop} {te : TE}
theorem e_ofOwn {E : XK} {i j : Nat} {ds : List D} (hi : ρ[i]? = some (some .hand)) (hj : ρ[j]? = some (some (.own ds)))
    (hm : m < 10000000) (hne : ds ≠ []) (hl : ds.length < 1000000) (q : ∀ (m2 : Nat) d, m2 ≤ m + 1 → d ∈ ds → Φ m2 d) :
    EvC K l (tCall (SpOfV K) [] E (tCons (tVar i) (tCons (tVar j) tNil))) ρ m Φ := by
  intro Z B H σ Q ok k
  obtain ⟨v0, e0, a0, ha, hv⟩ := ok.sl i _ hi
  subst hv
  obtain ⟨v1, e1, a, xs, rfl, q1, q2, q3, q4, q5⟩ := ok.sl j _ hj
  refine ⟨_, e0, _, e1, ?_⟩
  refine ⟨a0, a, xs, B, m, rfl, ok.sub, (ok.hand a0 ha).1, (ok.hand a0 ha).2, .inl (SqL.of q1), fun z => q4 (by rw [z]; exact ha), hm, fun z => hne ?_, by rw [q5.length]; exact hl, fun v m' B2 H2 hv h1 hh s1 s2 s3 s4 => ?_⟩
  · have := q5.length
    rw [z] at this
    exact List.eq_nil_of_length_eq_zero this.symm
  · obtain ⟨c, hc⟩ := List.getElem?_of_mem hv
    obtain ⟨d, hd, iv⟩ := q5.get hc
    obtain ⟨o2, f2⟩ := ok.step (m' := m') s1 s2 (fun b e => by rw [ha] at e; cases e; exact hh) (fun b o n e => s3 b o (fun z => n (z ▸ ha)) e) s4
    exact k v d m' B2 H2 o2 f2 (iv.mono s1) (q m' d h1 (List.mem_of_getElem? hd))
theorem e_ofD {E : XK} {i : Nat} (hi : ρ[i]? = some (some .hand))
    (h : EvC K l te ρ m fun m1 c => preOf m1 [c] ∧ ∀ m2 d, psiOf [c] m1 m2 d → Φ m2 d) :
    EvC K l (tCall (SpOfV K) [] E (tCons (tVar i) (tCons te tNil))) ρ m Φ := by
  intro Z B H σ Q ok k
  obtain ⟨v0, e0, a0, ha, hv⟩ := ok.sl i _ hi
  subst hv
  refine ⟨_, e0, ?_⟩
  refine h Z B H σ _ ok fun v c m1 B1 H1 o1 f1 i1 g1 => ?_
  obtain ⟨⟨hm, c', ds, e, hc, hne, hl⟩, q⟩ := g1
  cases (List.cons.inj e).1
  have go : ∀ (a : Addr) (xs : List V), v = .ref a → (SqL K H1 a xs ∨ SqT K H1 a xs) → (∃ o, B1 a = some o) → IsAll K B1 xs ds → tNil σ H1 fun xs' H2 => SpOfV K ((V.ref a0 :: v :: xs') ++ []) H2 Q E := by
    intro a xs hv hsq hB hall
    subst hv
    refine ⟨a0, a, xs, B1, m1, rfl, o1.sub, (o1.hand a0 ha).1, (o1.hand a0 ha).2, hsq, fun z => ?_, hm, fun z => hne ?_, by rw [hall.length]; exact hl, fun v m' B2 H2 hv h1 hh s1 s2 s3 s4 => ?_⟩
    · obtain ⟨o, hB⟩ := hB
      rw [z, (o1.hand a0 ha).2] at hB
      cases hB
    · have := hall.length
      rw [z] at this
      exact List.eq_nil_of_length_eq_zero this.symm
    · obtain ⟨x, hx⟩ := List.getElem?_of_mem hv
      obtain ⟨d, hd, iv⟩ := hall.get hx
      obtain ⟨o2, f2⟩ := o1.step (m' := m') s1 s2 (fun b e => by rw [ha] at e; cases e; exact hh) (fun b o n e => s3 b o (fun z => n (z ▸ ha)) e) s4
      exact k v d m' B2 H2 o2 (f1.trans f2) (iv.mono s1) (q m' d ⟨h1, _, ds, rfl, hc, List.mem_of_getElem? hd⟩)
  cases i1 with
  | @lst a xs _ hT is =>
    cases hc
    exact go a xs rfl (.inl (SqL.of (o1.sub _ _ hT))) ⟨_, hT⟩ is
  | @tup a xs _ hT is hcl =>
    cases hc
    obtain ⟨o, ys, e, _⟩ := hcl
    exact go a xs rfl (.inr (sameT o1.sub hT)) ⟨_, e⟩ is
  | _ => cases hc
end

section
variable {ms hs : List Int} {T U : List (List (List Int))} {Q : List (Nat × Nat)}
end
section
variable {K : PySem.W.Frag} {l : Option Addr} {ρ : Ro} {m : Nat} {Φ : Nat → D → Prop}
/-- xs[-1] of a list -/
theorem v_ixLn {ds : List D} {d : D} {i : Int} (h0 : i < 0)
    (h1 : 0 ≤ (ds.length : Int) + i)
    (hd : ds[((ds.length : Int) + i).toNat]? = some d) (q : Φ m d) :
    VvC K l ρ (fun vs H Q => ∃ x y, vs = [x, y] ∧ rIxL K x y H Q)
      [.lst ds, .int i] m Φ := by
  intro Z B H σ vs Q ok is k
  obtain ⟨v, w, rfl, h, h2⟩ := isAll2 is
  cases h2
  cases h with
  | @lst a us _ h r =>
    obtain ⟨v, e, iv⟩ := r.got hd
    refine ⟨_, _, rfl, a, us, i, v, rfl, rfl, SqL.of (ok.sub _ _ h), ?_,
      k _ _ m B H ok Fr.refl iv q⟩
    unfold atI ixN
    have hl := r.length
    rw [if_neg (by omega), if_pos (by omega), hl]
    rw [Int.add_comm] at e
    exact e
end
section
variable {ms : List Int} {n : Nat} {W : List (List (List Int))} {g l : Nat} {t : List Int}
end
section
variable {α β : Type}
end
section
variable {ms hs : List Int} {P P2 : List Row}
/-- P2 is P with a row more -/
structure More (P P2 : List Row) (r : Row) : Prop where
  mem : ∀ q, q ∈ P2 ↔ q = r ∨ q ∈ P
end
section
variable {ms hs : List Int} {P : List Row}
end
theorem e_notinOwnD {K : PySem.W.Frag} {l : Option Addr} {ρ : Ro} {m : Nat} {Φ : Nat → D → Prop} {te : TE} {i : Nat} {ds : List D} (hi : ρ[i]? = some (some (.own ds))) (hs : Eqs (.lst ds))
    (h : EvC K l te ρ m fun m1 a => Eqs a ∧ Φ m1 (.bl (!(D.pys ds).any fun z => PyData.eqv z a.py))) : EvC K l (tOp (rNotInD K) te (tVar i)) ρ m Φ := by
  intro Z B H σ Q ok k
  refine h Z B H σ _ ok fun v a m1 B1 H1 o1 f1 i1 g1 => ?_
  obtain ⟨ha, g1⟩ := g1
  obtain ⟨v1, e1, b, xs, rfl, q1, q2, q3, q4, q5⟩ := o1.sl i _ hi
  have hn := hs.plain
  rw [D.noDic] at hn
  exact ⟨_, e1, _, _, i1.dp o1.sub ha.plain, .lst (SqL.of q1) (IsAll.dp o1.sub q5 hn), ha.shaped, hs.shaped, k _ _ m1 B1 H1 o1 f1 (.bl _) g1⟩
/-- whether a place is among some -/
theorem spot_in14 {ms : List Int} {n : Nat} {S : List Spot} {p : Spot} (hM : MsP ms) (hn : n ≤ 16) (hS : ∀ q ∈ S, PlP ms n q.1 q.2) (hp : PlP ms n p.1 p.2) :
    ((D.pys (S.map dspot)).any fun z => PyData.eqv z (dspot p).py) = S.contains p := by
  induction S with
  | nil => rfl
  | cons q S ih =>
    rw [List.map_cons, D.pys, List.any_cons, ih fun x hx => hS x (List.mem_cons_of_mem _ hx), List.contains_cons]
    congr 1
    rw [Bool.eq_iff_iff, (((hS q List.mem_cons_self).num hM (by omega)).eqv (hp.num hM (by omega))), beq_iff_eq]
    exact ⟨fun e => (dspot_inj e).symm, fun e => by rw [e]⟩
theorem snoc_ind {α : Type} {P : List α → Prop} (h0 : P []) (h1 : ∀ L l, P L → P (L ++ [l])) (L : List α) : P L := by
  rw [← List.reverse_reverse L]
  generalize L.reverse = M
  induction M with
  | nil => exact h0
  | cons a M ih =>
    rw [List.reverse_cons]
    exact h1 _ _ ih
/-- the first difference rises -/
def LexI (A B : List Int) : Prop := ∃ (i : Nat) (x y : Int), A[i]? = some x ∧ B[i]? = some y ∧ x < y ∧ ∀ j < i, A[j]? = B[j]?
theorem LexI.app {A B : List Int} (h : LexI A B) (C E : List Int) : LexI (A ++ C) (B ++ E) := by
  obtain ⟨i, x, y, h1, h2, h3, h4⟩ := h
  have l1 := (List.getElem?_eq_some_iff.mp h1).1
  have l2 := (List.getElem?_eq_some_iff.mp h2).1
  refine ⟨i, x, y, by rw [List.getElem?_append_left l1]; exact h1, by rw [List.getElem?_append_left l2]; exact h2, h3, fun j hj => ?_⟩
  rw [List.getElem?_append_left (by omega), List.getElem?_append_left (by omega)]
  exact h4 j hj
theorem LexI.last (A : List Int) {x y : Int} (h : x < y) : LexI (A ++ [x]) (A ++ [y]) := by
  refine ⟨A.length, x, y, ?_, ?_, h, fun j hj => ?_⟩
  · rw [List.getElem?_append_right (Nat.le_refl _), Nat.sub_self]; rfl
  · rw [List.getElem?_append_right (Nat.le_refl _), Nat.sub_self]; rfl
  · rw [List.getElem?_append_left hj, List.getElem?_append_left hj]
theorem LexI.ne {A B : List Int} (h : LexI A B) : A ≠ B := fun e => by
  obtain ⟨i, x, y, h1, h2, h3, _⟩ := h
  rw [e, h2] at h1
  cases h1
  omega
section
variable {ms hs : List Int} {P : List Row}
end
section
variable {ms hs : List Int} {P : List Row}
/-- the first difference of two turnings rises -/
def TLt (n : Nat) (L L' : Nat → Nat) (M M' : Nat → Nat → List Int) : Prop :=
  (∃ x < n, L x < L' x ∧ ∀ y < x, L y = L' y) ∨
    ((∀ x < n, L x = L' x) ∧ ∃ x y, x < n ∧ y < x ∧ LexI (M x y) (M' x y) ∧ ∀ a b, a < n → b < a → (a < x ∨ a = x ∧ b < y) → M a b = M' a b)
end
section
variable {ms hs : List Int} {P : List Row}
theorem TLt.ne {n : Nat} {L L' : Nat → Nat} {M M' : Nat → Nat → List Int} (h : TLt n L L' M M') : ((List.range n).map L, tabM n M) ≠ ((List.range n).map L', tabM n M') := fun e => by
  have e1 : (List.range n).map L = (List.range n).map L' := congrArg Prod.fst e
  have e2 : tabM n M = tabM n M' := congrArg Prod.snd e
  rcases h with ⟨x, hx, hlt, _⟩ | ⟨_, x, y, hx, hy, hlt, _⟩
  · have := congrArg (fun l => l.getD x 0) e1
    have this : ((List.range n).map L).getD x 0 = ((List.range n).map L').getD x 0 := this
    rw [leads_getD hx, leads_getD hx] at this
    omega
  · have := congrArg (fun t => tt t x y) e2
    have this : tt (tabM n M) x y = tt (tabM n M') x y := this
    rw [tabM_tt10 hx hy, tabM_tt10 hx hy] at this
    exact hlt.ne this
end

def cfg35 : List (List Int × List Int) := [([2], [0, 0]), ([2], [0, 0, 0]), ([3], [0, 0, 0]), ([2], [1, 0, 1]), ([2], [0, 0, 5, 5]), ([5], [0, 9]), ([2, 2], [3, 3]), ([4], [1, 1, 0]), ([2], [0, 3, 0, 0]), ([5, 3, 2], [4, 4]), ([2, 2], [2, 1, 2])]
theorem cfg35_prod : ∀ q ∈ cfg35, D.prod (dints q.1) ≤ 30 := by decide
theorem cfg35_hue : ∀ q ∈ cfg35, msB q.1 = true ∧ 2 ≤ q.2.length ∧ q.2.length ≤ 4 ∧ (q.2.all fun n => decide (0 ≤ n) && decide (n ≤ 9)) = true := by decide
structure Cfg35 (ms hs : List Int) : Prop where
  mem : (ms, hs) ∈ cfg35
  M : MsP ms
  H : HuP hs
  n4 : hs.length ≤ 4
  Q : MsQ ms
theorem Cfg35.of {ms hs : List Int} (h : (ms, hs) ∈ cfg35) : Cfg35 ms hs := by
  obtain ⟨h1, h2, h3, h4⟩ := cfg35_hue _ h
  refine ⟨h, MsP.of h1, ⟨h2, by have : hs.length ≤ 4 := h3; omega, fun n hn => ?_⟩, h3, MsP.of h1, cfg35_prod _ h⟩
  have := List.all_eq_true.mp h4 n hn
  simpa using this
/-- unlike places, near each other -/
def preSs35 (m : Nat) (ds : List D) : Prop := m < 3000000 ∧ ∃ (ms : List Int) (n k : Nat), ds = [.tup (dints ms), .int n, .int k] ∧ MsP ms ∧ 2 ≤ n ∧ n ≤ 16 ∧ k ≤ 20
theorem set_pl35 {ms : List Int} {n c to : Nat} {V : List (List Int)} {t : List Int} (hV : PlP ms n c V) (ht : TieP ms t) (hz : to ≠ c) : PlP ms n c (V.set to t) := by
  refine ⟨hV.lt, by rw [List.length_set]; exact hV.len, fun u hu => ?_, ?_⟩
  · rcases List.mem_or_eq_of_mem_set hu with z | z
    · exact hV.tie u z
    · rw [z]; exact ht
  · rw [List.getElem?_set_ne hz]
    exact hV.own

section
variable {ms hs : List Int} {P : List Row}
end

def FreeS (hs : List Int) (S : List Spot) (x : Nat) : Prop := x < hs.length ∧ ∀ p ∈ S, p.1 ≠ x
def AlkS (ms hs : List Int) (S : List Spot) (x y : Nat) : Prop := hs.getD x 0 = hs.getD y 0 ∧ ∀ p ∈ S, ∀ q ∈ S, p.1 = q.1 →
  lessF ms (p.2.getD x []) (q.2.getD x []) = lessF ms (p.2.getD y []) (q.2.getD y [])
structure LeastT (ms hs : List Int) (S : List Spot) (t : Turn) : Prop where
  turn : TurnP ms hs t
  ris : ∀ x y, FreeS hs S x → FreeS hs S y → AlkS ms hs S x y → x < y → t.1.getD x 0 < t.1.getD y 0
  zero : ∀ x y, FreeS hs S x → FreeS hs S y → x ≠ y → tabT t.2 x y = zt ms
section
variable {ms hs : List Int} {S : List Spot}
theorem FreeS.congr {S' : List Spot} (h : ∀ p, p ∈ S ↔ p ∈ S') {x : Nat} : FreeS hs S x ↔ FreeS hs S' x :=
  ⟨fun z => ⟨z.1, fun p hp => z.2 p ((h p).mpr hp)⟩, fun z => ⟨z.1, fun p hp => z.2 p ((h p).mp hp)⟩⟩
theorem AlkS.congr {S' : List Spot} (h : ∀ p, p ∈ S ↔ p ∈ S') {x y : Nat} : AlkS ms hs S x y ↔ AlkS ms hs S' x y :=
  ⟨fun z => ⟨z.1, fun p hp q hq => z.2 p ((h p).mpr hp) q ((h q).mpr hq)⟩, fun z => ⟨z.1, fun p hp q hq => z.2 p ((h p).mp hp) q ((h q).mp hq)⟩⟩
theorem AlkS.symm {x y : Nat} (h : AlkS ms hs S x y) : AlkS ms hs S y x := ⟨h.1.symm, fun p hp q hq e => (h.2 p hp q hq e).symm⟩
theorem LeastT.congr {S' : List Spot} {t : Turn} (h : ∀ p, p ∈ S ↔ p ∈ S') (l : LeastT ms hs S t) : LeastT ms hs S' t :=
  ⟨l.turn, fun x y fx fy a => l.ris x y ((FreeS.congr h).mpr fx) ((FreeS.congr h).mpr fy) ((AlkS.congr h).mpr a), fun x y fx fy => l.zero x y ((FreeS.congr h).mpr fx) ((FreeS.congr h).mpr fy)⟩
end
def preGt19 (m : Nat) (ds : List D) : Prop := m < 2000000 ∧ ∃ n : Nat, ds = [.int n] ∧ 2 ≤ n ∧ n ≤ 16
def psiGt19 (ds : List D) (m m' : Nat) (d : D) : Prop := m' ≤ m + 30 ∧ ∃ (n : Nat) (ms hs : List Int), ds = [.int n] ∧ MsQ ms ∧ HuP hs ∧ hs.length ≤ n ∧ d = .tup [.tup (dints ms), .tup (dints hs)]
theorem g_gt19 {Ψ : Nat → D → Prop} {m n : Nat} (hm : m < 2000000) (h1 : 2 ≤ n) (h2 : n ≤ 16) (h : ∀ (m2 : Nat) ms hs, m2 ≤ m + 30 → MsQ ms → HuP hs → hs.length ≤ n → Ψ m2 (.tup [.tup (dints ms), .tup (dints hs)])) :
    preGt19 m [.int n] ∧ ∀ m2 d, psiGt19 [.int n] m m2 d → Ψ m2 d := by
  refine ⟨⟨hm, n, rfl, h1, h2⟩, fun m2 d q => ?_⟩
  obtain ⟨q1, n2, ms, hs, e, q2, q3, q4, rfl⟩ := q
  have : n = n2 := by have := D.int.inj (List.cons.inj e).1; omega
  subst this
  exact h m2 ms hs q1 q2 q3 q4

def lcmL (L : List Nat) : Nat := L.foldl Nat.lcm 1
theorem lcmL_snoc (L : List Nat) (x : Nat) : lcmL (L ++ [x]) = Nat.lcm (lcmL L) x := by
  unfold lcmL
  rw [List.foldl_append]
  rfl
theorem lcmL_dvd (L : List Nat) {n : Nat} (h : ∀ x ∈ L, x ∣ n) : lcmL L ∣ n := by
  refine snoc_ind (P := fun L => (∀ x ∈ L, x ∣ n) → lcmL L ∣ n) ?_ ?_ L h
  · intro _; exact Nat.one_dvd n
  · intro L l ih h
    rw [lcmL_snoc]
    exact Nat.lcm_dvd (ih fun x hx => h x (List.mem_append_left _ hx)) (h l (List.mem_append_right _ List.mem_cons_self))
theorem dvd_lcmL (L : List Nat) : ∀ x ∈ L, x ∣ lcmL L := by
  refine snoc_ind (P := fun L => ∀ x ∈ L, x ∣ lcmL L) ?_ ?_ L
  · intro x h; cases h
  · intro L l ih x hx
    rw [lcmL_snoc]
    rcases List.mem_append.mp hx with z | z
    · exact Nat.dvd_trans (ih x z) (Nat.dvd_lcm_left _ _)
    · rw [List.mem_singleton.mp z]; exact Nat.dvd_lcm_right _ _
theorem lcmL_pos (L : List Nat) (h : ∀ x ∈ L, 0 < x) : 0 < lcmL L := by
  refine snoc_ind (P := fun L => (∀ x ∈ L, 0 < x) → 0 < lcmL L) ?_ ?_ L h
  · intro _; decide
  · intro L l ih h
    rw [lcmL_snoc]
    exact Nat.lcm_pos (ih fun x hx => h x (List.mem_append_left _ hx)) (h l (List.mem_append_right _ List.mem_cons_self))
theorem find_least26 {p : Nat → Bool} : ∀ {n k : Nat}, k < n → p k = true → ∃ m, (List.range n).find? p = some m ∧ m ≤ k ∧ p m = true ∧ ∀ j < m, p j = false := fun {n k} hk hp => by
  cases e : (List.range n).find? p with
  | none => exact absurd hp (by rw [List.find?_eq_none] at e; exact e k (List.mem_range.mpr hk))
  | some m =>
    obtain ⟨h1, h2, h3⟩ := List.find?_range_eq_some.mp e
    refine ⟨m, rfl, ?_, h1, fun j hj => ?_⟩
    · rcases Nat.lt_or_ge k m with z | z
      · have := h3 k z
        rw [hp] at this
        cases this
      · exact z
    · have := h3 j hj
      rwa [Bool.not_eq_true'] at this
/-- where the leads lead in k steps -/
def it26 (ls : List Nat) : Nat → Nat → Nat
  | 0, x => x
  | k + 1, x => ls.getD (it26 ls k x) 0
structure Inj26 (ls : List Nat) : Prop where
  lt : ∀ x < ls.length, ls.getD x 0 < ls.length
  inj : ∀ x < ls.length, ∀ y < ls.length, ls.getD x 0 = ls.getD y 0 → x = y
section
variable {ls : List Nat}
theorem Inj26.it_lt (h : Inj26 ls) {x : Nat} (hx : x < ls.length) : ∀ k, it26 ls k x < ls.length
  | 0 => hx
  | k + 1 => h.lt _ (h.it_lt hx k)
theorem Inj26.cancel (h : Inj26 ls) {x : Nat} (hx : x < ls.length) : ∀ (i d : Nat), it26 ls i x = it26 ls (i + d) x → it26 ls d x = x
  | 0, d, e => by rw [Nat.zero_add] at e; exact e.symm
  | i + 1, d, e => by
    rw [show i + 1 + d = i + d + 1 by omega] at e
    exact h.cancel hx i d (h.inj _ (h.it_lt hx i) _ (h.it_lt hx (i + d)) e)
theorem Inj26.back (h : Inj26 ls) {x : Nat} (hx : x < ls.length) : ∃ k, k < ls.length ∧ it26 ls (k + 1) x = x := Classical.byContradiction fun hn => by
  have hn : ∀ k, k < ls.length → it26 ls (k + 1) x ≠ x := fun k hk e => hn ⟨k, hk, e⟩
  have nd : ((List.range (ls.length + 1)).map fun k => it26 ls k x).Nodup := by
    unfold List.Nodup
    rw [List.pairwise_map]
    refine List.Pairwise.imp_of_mem (fun {i j} hi hj hlt e => ?_) List.pairwise_lt_range
    have hj := List.mem_range.mp hj
    have := h.cancel hx i (j - i) (by rw [show i + (j - i) = j by omega]; exact e)
    exact hn (j - i - 1) (by omega) (by rw [show j - i - 1 + 1 = j - i by omega]; exact this)
  have := List.Nodup.length_le_of_subset nd (l₂ := List.range ls.length) fun y hy => by
    obtain ⟨k, _, rfl⟩ := List.mem_map.mp hy
    exact List.mem_range.mpr (h.it_lt hx k)
  rw [List.length_map, List.length_range, List.length_range] at this
  omega
/-- the length of a ring, less one -/
def per26 (ls : List Nat) (x : Nat) : Nat := ((List.range ls.length).find? fun k => it26 ls (k + 1) x == x).getD 0
theorem Inj26.per (h : Inj26 ls) {x : Nat} (hx : x < ls.length) : per26 ls x < ls.length ∧ it26 ls (per26 ls x + 1) x = x ∧ ∀ k < per26 ls x, it26 ls (k + 1) x ≠ x := by
  obtain ⟨k, hk, e⟩ := h.back hx
  obtain ⟨m, h1, h2, h3, h4⟩ := find_least26 (p := fun k => it26 ls (k + 1) x == x) hk (by rw [e]; exact beq_self_eq_true x)
  have em : per26 ls x = m := by unfold per26; rw [h1]; rfl
  rw [em]
  refine ⟨by omega, by simpa using h3, fun j hj => by simpa using h4 j hj⟩
end
def ringN26 (ls : List Nat) (x : Nat) : List Nat := (List.range (per26 ls x + 1)).map fun k => it26 ls k x
def powT26 (ms : List Int) (n : Nat) (t : Turn) : Nat → Turn
  | 0 => stillT ms n
  | k + 1 => behT ms (powT26 ms n t k) t
section
variable {ms hs : List Int} {t : Turn}
theorem pow_turn26 (hM : MsP ms) (ht : TurnP ms hs t) : ∀ k, TurnP ms hs (powT26 ms hs.length t k)
  | 0 => still_turn hM
  | k + 1 => beh_turn hM (pow_turn26 hM ht k) ht
theorem pow_add26 (hM : MsP ms) (ht : TurnP ms hs t) (a : Nat) : ∀ b, behT ms (powT26 ms hs.length t a) (powT26 ms hs.length t b) = powT26 ms hs.length t (a + b)
  | 0 => LeadP.still_beh hM (pow_turn26 hM ht a)
  | b + 1 => by
    show behT ms (powT26 ms hs.length t a) (behT ms (powT26 ms hs.length t b) t) = behT ms (powT26 ms hs.length t (a + b)) t
    rw [← beh_assoc hM (pow_turn26 hM ht a) (pow_turn26 hM ht b) ht, pow_add26 hM ht a b]
end
theorem ordFrom_spec26 {p : Nat → Bool} : ∀ {f k k0 : Nat}, k ≤ k0 → k0 ≤ k + f → p k0 = true → p (ordFrom p f k) = true ∧ ∀ j, k ≤ j → j < ordFrom p f k → p j = false
  | 0, k, k0, h1, h2, h3 => by
    obtain rfl : k = k0 := by omega
    rw [ordFrom]
    exact ⟨h3, fun j a b => by omega⟩
  | f + 1, k, k0, h1, h2, h3 => by
    rw [ordFrom]
    by_cases e : p k = true
    · rw [if_pos e]
      exact ⟨e, fun j a b => by omega⟩
    · rw [if_neg e]
      have hne : k ≠ k0 := fun z => e (by rw [z]; exact h3)
      obtain ⟨g1, g2⟩ := ordFrom_spec26 (f := f) (k := k + 1) (k0 := k0) (by omega) (by omega) h3
      refine ⟨g1, fun j a b => ?_⟩
      by_cases z : j = k
      · rw [z]; simpa using e
      · exact g2 j (by omega) b
theorem zeroAt_iff26 {ms t : List Int} (h : TieP ms t) (k : Nat) : zeroAt ms t k = true ↔ ∀ (c : Nat) m x, ms[c]? = some m → t[c]? = some x → m ∣ x * k := by
  unfold zeroAt
  rw [beq_iff_eq]
  constructor
  · intro e c m x h1 h2
    have := times_get (n := (k : Int)) h1 h2
    rw [e, List.getElem?_replicate] at this
    split at this
    · exact Int.dvd_of_emod_eq_zero (Option.some.inj this).symm
    · cases this
  · intro e
    refine ext_of_get (by rw [times_len h]; simp) fun c x y h1 h2 => ?_
    obtain ⟨m, em⟩ := get_of_len (Nat.le_of_eq (times_len h _)) h1
    obtain ⟨z, ez⟩ := get_of_len (Nat.le_of_eq h.1.symm) em
    rw [times_get em ez] at h1
    rw [List.getElem?_replicate] at h2
    split at h2
    · cases h2
      cases h1
      exact Int.emod_eq_zero_of_dvd (e c m z em ez)
    · cases h2
theorem ord_spec26 {ms t : List Int} (hM : MsP ms) (h : TieP ms t) : zeroAt ms t (ordF ms t) = true ∧ ∀ j, 1 ≤ j → j < ordF ms t → zeroAt ms t j = false :=
  ordFrom_spec26 (by omega) (by omega) (zero60 hM h)
theorem ord_dvd26 {ms t : List Int} (hM : MsP ms) (h : TieP ms t) {n : Nat} (hn : zeroAt ms t n = true) : ordF ms t ∣ n := by
  obtain ⟨h1, h2⟩ := ord_spec26 hM h
  have hb := ord_bd ms t
  have hlt := Nat.mod_lt n (show 0 < ordF ms t by omega)
  refine Nat.dvd_of_mod_eq_zero (Classical.byContradiction fun z => ?_)
  have := h2 (n % ordF ms t) (by omega) hlt
  rw [show zeroAt ms t (n % ordF ms t) = true from (zeroAt_iff26 h _).mpr fun c m x e1 e2 => ?_] at this
  · cases this
  · have a1 := (zeroAt_iff26 h _).mp h1 c m x e1 e2
    have a2 := (zeroAt_iff26 h _).mp hn c m x e1 e2
    have e3 := Nat.div_add_mod n (ordF ms t)
    have e4 : x * ((n % ordF ms t : Nat) : Int) = x * (n : Int) - x * (ordF ms t : Int) * ((n / ordF ms t : Nat) : Int) := by
      have : (n : Int) = (ordF ms t : Int) * ((n / ordF ms t : Nat) : Int) + ((n % ordF ms t : Nat) : Int) := by exact_mod_cast e3.symm
      rw [this, Int.mul_add, Int.mul_assoc]
      omega
    rw [e4]
    exact Int.dvd_sub a2 (Int.dvd_trans a1 (Int.dvd_mul_right _ _))
def turns26 (t : Turn) : Nat := lcmL (t.1.map fun x => per26 t.1 x + 1)
def ord26 (ms : List Int) (n : Nat) (t : Turn) : Nat := turns26 t * lcmL ((powT26 ms n t (turns26 t)).2.flatMap fun r => r.map (ordF ms))
theorem lead_inj26 {hs : List Int} {ls : List Nat} (h : LeadP hs ls) : Inj26 ls := by
  have hl := h.len
  have gd : ∀ x < ls.length, ls[x]? = some (ls.getD x 0) := fun x hx => by
    rw [List.getD_eq_getElem?_getD, List.getElem?_eq_getElem hx]; rfl
  refine ⟨fun x hx => ?_, fun x hx y hy e => ?_⟩
  · have := (h.hue x _ (gd x hx)).1
    omega
  · exact h.inj (gd x hx) (by rw [e]; exact gd y hy)
theorem ord_pos26 {ms hs : List Int} {t : Turn} (hM : MsP ms) (ht : TurnP ms hs t) : 0 < ord26 ms hs.length t := by
  refine Nat.mul_pos (lcmL_pos _ fun x hx => ?_) (lcmL_pos _ fun x hx => ?_)
  · obtain ⟨y, _, rfl⟩ := List.mem_map.mp hx
    exact Nat.succ_pos _
  · obtain ⟨r, _, hx⟩ := List.mem_flatMap.mp hx
    obtain ⟨b, _, rfl⟩ := List.mem_map.mp hx
    exact (ord_bd ms b).1
theorem it_add26 (ls : List Nat) (a x : Nat) : ∀ b, it26 ls (a + b) x = it26 ls b (it26 ls a x)
  | 0 => rfl
  | b + 1 => by
    show ls.getD (it26 ls (a + b) x) 0 = ls.getD (it26 ls b (it26 ls a x)) 0
    rw [it_add26 ls a x b]
theorem it_mul26 {ls : List Nat} {p x : Nat} (h : it26 ls p x = x) : ∀ j, it26 ls (p * j) x = x
  | 0 => rfl
  | j + 1 => by rw [Nat.mul_succ, it_add26, it_mul26 h j, h]
theorem it_dvd26 {ls : List Nat} (hi : Inj26 ls) {x k : Nat} (hx : x < ls.length) : it26 ls k x = x ↔ per26 ls x + 1 ∣ k := by
  obtain ⟨p1, p2, p3⟩ := hi.per hx
  constructor
  · intro h
    refine Nat.dvd_of_mod_eq_zero (Classical.byContradiction fun z => ?_)
    have e := Nat.div_add_mod k (per26 ls x + 1)
    have hlt := Nat.mod_lt k (show 0 < per26 ls x + 1 by omega)
    rw [← e, it_add26, it_mul26 p2] at h
    exact p3 (k % (per26 ls x + 1) - 1) (by omega) (by rw [show k % (per26 ls x + 1) - 1 + 1 = k % (per26 ls x + 1) by omega]; exact h)
  · rintro ⟨j, rfl⟩
    exact it_mul26 p2 j
section
variable {ms hs : List Int} {t u : Turn}
theorem pow_lead26 (hM : MsP ms) (ht : TurnP ms hs t) : ∀ k {x : Nat}, x < hs.length → (powT26 ms hs.length t k).1[x]? = some (it26 t.1 k x)
  | 0, x, hx => by
    show (List.range hs.length)[x]? = _
    rw [List.getElem?_range hx]
    rfl
  | k + 1, x, hx => by
    have hl := ht.lead.len
    have hlt := (lead_inj26 ht.lead).it_lt (x := x) (by omega) k
    refine beh_get (pow_lead26 hM ht k hx) ?_
    show t.1[it26 t.1 k x]? = some (t.1.getD (it26 t.1 k x) 0)
    rw [List.getD_eq_getElem?_getD, List.getElem?_eq_getElem hlt]
    rfl
theorem pow_mul26 (hM : MsP ms) (ht : TurnP ms hs t) (a : Nat) : ∀ j, powT26 ms hs.length (powT26 ms hs.length t a) j = powT26 ms hs.length t (a * j)
  | 0 => rfl
  | j + 1 => by
    show behT ms (powT26 ms hs.length (powT26 ms hs.length t a) j) (powT26 ms hs.length t a) = _
    rw [pow_mul26 hM ht a j, pow_add26 hM ht, Nat.mul_succ]
theorem times_succ26 {τ : List Int} (hM : MsP ms) (h : TieP ms τ) (j : Nat) : sumF ms (timesF ms τ j) τ = timesF ms τ ((j + 1 : Nat) : Int) := by
  have h1 := times_tie hM h (j : Int)
  have hl : (sumF ms (timesF ms τ j) τ).length = ms.length := (sum_tie hM h1 h).1
  refine ext_of_get (by rw [hl, times_len h]) fun c x y e1 e2 => ?_
  obtain ⟨m, em⟩ := get_of_len (Nat.le_of_eq hl) e1
  obtain ⟨z, ez⟩ := get_of_len (Nat.le_of_eq h.1.symm) em
  rw [sum_get em (times_get em ez) ez] at e1
  rw [times_get em ez] at e2
  rw [← Option.some.inj e1, ← Option.some.inj e2, Int.emod_add_emod, Int.natCast_succ, Int.mul_add, Int.mul_one]
theorem times_zero26 {τ : List Int} (h : TieP ms τ) : timesF ms τ ((0 : Nat) : Int) = List.replicate ms.length 0 := by
  refine ext_of_get (by rw [times_len h]; simp) fun c x y e1 e2 => ?_
  obtain ⟨m, em⟩ := get_of_len (Nat.le_of_eq (times_len h _)) e1
  obtain ⟨z, ez⟩ := get_of_len (Nat.le_of_eq h.1.symm) em
  rw [times_get em ez] at e1
  rw [List.getElem?_replicate] at e2
  split at e2
  · cases e2
    cases e1
    simp
  · cases e2
theorem still_tt26 {i j : Nat} (hi : i < hs.length) (hj : j < i) : tabT (stillT ms hs.length).2 i j = List.replicate ms.length 0 := by
  rw [tabT_gt hj]
  exact const_tt hi hj
theorem pow_tab26 (hM : MsP ms) (hu : TurnP ms hs u) (hid : ∀ x < hs.length, u.1[x]? = some x) {i j : Nat} (hi : i < hs.length) (hj : j < i) :
    ∀ k, tabT (powT26 ms hs.length u k).2 i j = timesF ms (tabT u.2 i j) (k : Nat)
  | 0 => by
    rw [times_zero26 (tabT_tie hu.tab hi (by omega) (by omega))]
    exact still_tt26 hi hj
  | k + 1 => by
    have hit : ∀ x < hs.length, ∀ k, it26 u.1 k x = x := fun x hx k => by
      induction k with
      | zero => rfl
      | succ k ih =>
        show u.1.getD (it26 u.1 k x) 0 = x
        rw [ih, List.getD_eq_getElem?_getD, hid x hx]
        rfl
    show tabT (behT ms (powT26 ms hs.length u k) u).2 i j = _
    rw [beh_tab (pow_turn26 hM hu k) (pow_lead26 hM hu k hi) (pow_lead26 hM hu k (show j < hs.length by omega)) (by omega), hit i hi, hit j (by omega), pow_tab26 hM hu hid hi hj k,
      times_succ26 hM (tabT_tie hu.tab hi (by omega) (by omega))]
/-- the turning is still again just where its order parts the number -/
theorem pow_still26 (hM : MsP ms) (ht : TurnP ms hs t) (k : Nat) : powT26 ms hs.length t k = stillT ms hs.length ↔ ord26 ms hs.length t ∣ k := by
  have hl := ht.lead.len
  have hi := lead_inj26 ht.lead
  obtain ⟨u, eu⟩ : ∃ u, u = powT26 ms hs.length t (turns26 t) := ⟨_, rfl⟩
  have hu : TurnP ms hs u := by rw [eu]; exact pow_turn26 hM ht _
  have hback : ∀ x < hs.length, it26 t.1 (turns26 t) x = x := fun x hx => by
    refine (it_dvd26 hi (by omega)).mpr (dvd_lcmL _ _ (List.mem_map.mpr ⟨x, (by obtain ⟨b, _, hb⟩ := ht.lead.surj hx; exact List.mem_of_getElem? hb), rfl⟩))
  have hid : ∀ x < hs.length, u.1[x]? = some x := fun x hx => by
    rw [eu, pow_lead26 hM ht _ hx, hback x hx]
  have tie : ∀ {i j : Nat}, i < hs.length → j < i → TieP ms (tabT u.2 i j) := fun a b => tabT_tie hu.tab a (by omega) (by omega)
  have hpart : ∀ j, powT26 ms hs.length u j = stillT ms hs.length ↔ lcmL (u.2.flatMap fun r => r.map (ordF ms)) ∣ j := fun j => by
    constructor
    · intro e
      refine lcmL_dvd _ fun y hy => ?_
      obtain ⟨r, hr, hy⟩ := List.mem_flatMap.mp hy
      obtain ⟨τ, hτ, rfl⟩ := List.mem_map.mp hy
      obtain ⟨a, ha⟩ := List.mem_iff_getElem?.mp hr
      obtain ⟨b, hb⟩ := List.mem_iff_getElem?.mp hτ
      have h1 := hu.tab.2 a r ha
      have h2 := (List.getElem?_eq_some_iff.mp ha).1
      have h3 := (List.getElem?_eq_some_iff.mp hb).1
      have h4 := hu.tab.1
      have hab : tabT u.2 a b = τ := by
        rw [tabT_gt (by omega)]
        exact tt_of ha hb
      have := pow_tab26 hM hu hid (i := a) (j := b) (by omega) (by omega) j
      rw [e, still_tt26 (by omega) (by omega), hab] at this
      refine ord_dvd26 hM (h1.2 τ hτ) ?_
      unfold zeroAt
      rw [beq_iff_eq]
      exact this.symm
    · intro hd
      refine turn_ext (pow_turn26 hM hu j) (still_turn hM) ?_ fun a b ha hb => ?_
      · refine ext_of_get (by rw [(pow_turn26 hM hu j).lead.len]; show _ = (List.range hs.length).length; rw [List.length_range]) fun c x y e1 e2 => ?_
        have hc : c < hs.length := by
          have := (List.getElem?_eq_some_iff.mp e1).1
          rw [(pow_turn26 hM hu j).lead.len] at this
          exact this
        have e2 : (List.range hs.length)[c]? = some y := e2
        rw [List.getElem?_range hc] at e2
        cases e2
        rw [pow_lead26 hM hu j hc] at e1
        have hul := hu.lead.len
        have : it26 u.1 j c = c := by
          clear e1
          induction j with
          | zero => rfl
          | succ j _ =>
            have hh : ∀ k, it26 u.1 k c = c := fun k => by
              induction k with
              | zero => rfl
              | succ k ih =>
                show u.1.getD (it26 u.1 k c) 0 = c
                rw [ih, List.getD_eq_getElem?_getD, hid c hc]
                rfl
            exact hh (j + 1)
        rw [this] at e1
        exact (Option.some.inj e1).symm
      · have e := pow_tab26 hM hu hid ha hb j
        rw [← tabT_gt hb, ← tabT_gt hb, e, still_tt26 ha hb]
        obtain ⟨r, hr⟩ : ∃ r, u.2[a]? = some r := ⟨_, List.getElem?_eq_getElem (by rw [hu.tab.1]; exact ha)⟩
        have h1 := hu.tab.2 a r hr
        obtain ⟨τ, hτ⟩ : ∃ τ, r[b]? = some τ := ⟨_, List.getElem?_eq_getElem (by rw [h1.1]; exact hb)⟩
        have hab : tabT u.2 a b = τ := by
          rw [tabT_gt hb]
          exact tt_of hr hτ
        have hτT := h1.2 τ (List.mem_of_getElem? hτ)
        have hd1 : ordF ms τ ∣ j := Nat.dvd_trans (dvd_lcmL _ _ (List.mem_flatMap.mpr ⟨r, List.mem_of_getElem? hr, List.mem_map.mpr ⟨τ, List.mem_of_getElem? hτ, rfl⟩⟩)) hd
        rw [hab]
        have hz : zeroAt ms τ j = true := (zeroAt_iff26 hτT j).mpr fun c m x e1 e2 => by
          obtain ⟨q, rfl⟩ := hd1
          have := (zeroAt_iff26 hτT _).mp (ord_spec26 hM hτT).1 c m x e1 e2
          rw [Int.natCast_mul, ← Int.mul_assoc]
          exact Int.dvd_trans this (Int.dvd_mul_right _ _)
        unfold zeroAt at hz
        rw [beq_iff_eq] at hz
        exact hz
  constructor
  · intro e
    have hT : turns26 t ∣ k := lcmL_dvd _ fun y hy => by
      obtain ⟨x, hx, rfl⟩ := List.mem_map.mp hy
      obtain ⟨b, hb⟩ := List.mem_iff_getElem?.mp hx
      have hxl := (ht.lead.hue b x hb).1
      refine (it_dvd26 hi (by omega)).mp ?_
      have := pow_lead26 hM ht k hxl
      rw [e] at this
      have this : (List.range hs.length)[x]? = some (it26 t.1 k x) := this
      rw [List.getElem?_range hxl] at this
      exact (Option.some.inj this).symm
    obtain ⟨j, rfl⟩ := hT
    rw [← pow_mul26 hM ht, ← eu] at e
    rw [ord26, ← eu]
    exact Nat.mul_dvd_mul_left _ ((hpart j).mp e)
  · rintro ⟨q, rfl⟩
    rw [ord26, ← eu, Nat.mul_assoc, ← pow_mul26 hM ht, ← eu]
    exact (hpart _).mpr ⟨q, rfl⟩
end
section
variable {ms hs : List Int} {t : Turn}
end

/-- the ties that a power gathers -/
def tau39 (t : Turn) (a b i : Nat) : List Int := tabT t.2 (it26 t.1 i a) (it26 t.1 i b)
def sum39 (t : Turn) (a b c k : Nat) : Int := ((List.range k).map fun i => (tau39 t a b i).getD c 0).sum
theorem sum39_succ (t : Turn) (a b c k : Nat) : sum39 t a b c (k + 1) = sum39 t a b c k + (tau39 t a b k).getD c 0 := by
  unfold sum39
  rw [List.range_succ, List.map_append, List.sum_append]
  simp
theorem it_inj39 {ls : List Nat} (hi : Inj26 ls) {a b : Nat} (ha : a < ls.length) (hb : b < ls.length) (h : a ≠ b) : ∀ k, it26 ls k a ≠ it26 ls k b
  | 0 => h
  | k + 1 => fun e => it_inj39 hi ha hb h k (hi.inj _ (hi.it_lt ha k) _ (hi.it_lt hb k) e)
theorem pow_sum39 {ms hs : List Int} {t : Turn} (hM : MsP ms) (ht : TurnP ms hs t) {a b c : Nat} {m : Int} (ha : a < hs.length) (hb : b < a) (hm : ms[c]? = some m) :
    ∀ k, (tabT (powT26 ms hs.length t k).2 a b)[c]? = some (sum39 t a b c k % m)
  | 0 => by
    show (tabT (stillT ms hs.length).2 a b)[c]? = _
    have hc := (List.getElem?_eq_some_iff.mp hm).1
    rw [still_tt26 ha hb, List.getElem?_replicate, if_pos hc]
    show some 0 = some ((0 : Int) % m)
    rw [Int.zero_emod]
  | k + 1 => by
    have hl := ht.lead.len
    have hi := lead_inj26 ht.lead
    have hbl : b < hs.length := by omega
    have hne := it_inj39 hi (a := a) (b := b) (by omega) (by omega) (by omega) k
    have hT := tabT_tie ht.tab (show it26 t.1 k a < hs.length by have := hi.it_lt (x := a) (by omega) k; omega) (show it26 t.1 k b < hs.length by have := hi.it_lt (x := b) (by omega) k; omega) hne
    obtain ⟨z, hz⟩ := get_of_len (Nat.le_of_eq hT.1.symm) hm
    show (tabT (behT ms (powT26 ms hs.length t k) t).2 a b)[c]? = _
    rw [beh_tab (pow_turn26 hM ht k) (pow_lead26 hM ht k ha) (pow_lead26 hM ht k hbl) (by omega), sum_get hm (pow_sum39 hM ht ha hb hm k) hz, sum39_succ, Int.emod_add_emod]
    show some ((sum39 t a b c k + z) % m) = some ((sum39 t a b c k + (tabT t.2 (it26 t.1 k a) (it26 t.1 k b)).getD c 0) % m)
    rw [List.getD_eq_getElem?_getD, hz]
    rfl
/-- after q steps the two are the same two -/
def Back39 (ls : List Nat) (a b q : Nat) : Prop := (it26 ls q a = a ∧ it26 ls q b = b) ∨ (it26 ls q a = b ∧ it26 ls q b = a)
theorem Back39.add {ls : List Nat} {a b q r : Nat} (h : Back39 ls a b q) : Back39 ls a b (q + r) ↔ Back39 ls a b r := by
  unfold Back39
  rw [it_add26, it_add26]
  rcases h with ⟨h1, h2⟩ | ⟨h1, h2⟩
  · rw [h1, h2]
  · rw [h1, h2]
    constructor
    · rintro (⟨e1, e2⟩ | ⟨e1, e2⟩)
      · exact .inr ⟨e2, e1⟩
      · exact .inl ⟨e2, e1⟩
    · rintro (⟨e1, e2⟩ | ⟨e1, e2⟩)
      · exact .inr ⟨e2, e1⟩
      · exact .inl ⟨e2, e1⟩
theorem tab_sym39 (T : List (List (List Int))) {x y : Nat} (h : x ≠ y) : tabT T x y = tabT T y x := by
  rcases Nat.lt_or_ge y x with z | z
  · rw [tabT_gt z, tabT_le (show ¬ x < y by omega)]
  · rw [tabT_le (show ¬ y < x by omega), tabT_gt (show x < y by omega)]
structure Rd27 (hs : List Int) (L left : List Nat) : Prop where
  lead : LeadP hs L
  nd : left.Nodup
  lt : ∀ x ∈ left, x < hs.length
  fix : ∀ x ∈ left, L[x]? = some x
def cyc27 (L path : List Nat) : Nat → List Nat
  | 0 => L
  | c + 1 => (cyc27 L path c).set (path.getD c 0) (path.getD ((c + 1) % path.length) 0)
theorem cyc27_len (L path : List Nat) : ∀ c, (cyc27 L path c).length = L.length
  | 0 => rfl
  | c + 1 => by rw [cyc27, List.length_set, cyc27_len L path c]
theorem cyc27_off {L path : List Nat} {x : Nat} : ∀ c, c ≤ path.length → (∀ k, k < c → path[k]? ≠ some x) → (cyc27 L path c)[x]? = L[x]?
  | 0, _, _ => rfl
  | c + 1, hc, h => by
    have h1 := h c (by omega)
    rw [List.getElem?_eq_getElem (by omega)] at h1
    rw [cyc27, List.getElem?_set_ne (fun e => h1 (by rw [List.getD_eq_getElem?_getD, List.getElem?_eq_getElem (by omega)] at e; exact congrArg some e)), cyc27_off c (by omega) fun k hk => h k (by omega)]
theorem cyc27_on {L path : List Nat} (nd : path.Nodup) (hlt : ∀ x ∈ path, x < L.length) : ∀ c, c ≤ path.length → ∀ {k x : Nat}, k < c → path[k]? = some x → (cyc27 L path c)[x]? = some (path.getD ((k + 1) % path.length) 0)
  | 0, _, _, _, hk, _ => by omega
  | c + 1, hc, k, x, hk, hx => by
    have hxm := List.mem_of_getElem? hx
    have hgc : path.getD c 0 = path[c]'(by omega) := by rw [List.getD_eq_getElem?_getD, List.getElem?_eq_getElem (by omega)]; rfl
    rcases Nat.lt_or_ge k c with z | z
    · have hne : path.getD c 0 ≠ x := fun e => by
        rw [hgc] at e
        have e2 : path[c]? = path[k]? := by rw [hx, List.getElem?_eq_getElem (by omega), e]
        have := (List.getElem?_inj (by omega) nd).mp e2
        omega
      rw [cyc27, List.getElem?_set_ne hne, cyc27_on nd hlt c (by omega) z hx]
    · have : k = c := by omega
      subst this
      have e : path.getD k 0 = x := by rw [List.getD_eq_getElem?_getD, hx]; rfl
      rw [cyc27, e, List.getElem?_set_self (by rw [cyc27_len]; exact hlt x hxm)]
theorem Rd27.start (hs : List Int) {left : List Nat} (h : left.Perm (List.range hs.length)) : Rd27 hs (List.range hs.length) left :=
  ⟨lead_still hs, h.nodup_iff.mpr List.nodup_range, fun x hx => List.mem_range.mp (h.mem_iff.mp hx), fun x hx => List.getElem?_range (List.mem_range.mp (h.mem_iff.mp hx))⟩
theorem Rd27.step {hs : List Int} {L left path left' : List Nat} (h : Rd27 hs L left) (nd : path.Nodup) (hsub : ∀ x ∈ path, x ∈ left) (hue : ∀ x ∈ path, ∀ y ∈ path, hs[x]? = hs[y]?)
    (nd' : left'.Nodup) (hsub' : ∀ x ∈ left', x ∈ left ∧ x ∉ path) : Rd27 hs (cyc27 L path path.length) left' := by
  have hlen := h.lead.len
  have hlt : ∀ x ∈ path, x < L.length := fun x hx => by rw [hlen]; exact h.lt x (hsub x hx)
  have on := fun {k x : Nat} (hx : path[k]? = some x) => cyc27_on (L := L) nd hlt path.length (Nat.le_refl _) (List.getElem?_eq_some_iff.mp hx).1 hx
  have off : ∀ x, x ∉ path → (cyc27 L path path.length)[x]? = L[x]? := fun x hx => cyc27_off _ (Nat.le_refl _) fun k _ e => hx (List.mem_of_getElem? e)
  have nx : ∀ k, k < path.length → path[(k + 1) % path.length]? = some (path.getD ((k + 1) % path.length) 0) := fun k hk => by
    have hm := Nat.mod_lt (k + 1) (show 0 < path.length by omega)
    rw [List.getD_eq_getElem?_getD, List.getElem?_eq_getElem hm]; rfl
  have cl : (cyc27 L path path.length).length = hs.length := by rw [cyc27_len, hlen]
  -- of each stem, where it is led
  have val : ∀ x y, (cyc27 L path path.length)[x]? = some y → (∃ k, path[k]? = some x ∧ path[(k + 1) % path.length]? = some y) ∨ (x ∉ path ∧ L[x]? = some y) := fun x y e => by
    by_cases hx : x ∈ path
    · obtain ⟨k, hk, ek⟩ := List.getElem_of_mem hx
      have ek2 : path[k]? = some x := by rw [List.getElem?_eq_getElem hk, ek]
      rw [on ek2] at e
      exact .inl ⟨k, ek2, by rw [nx k hk]; exact e⟩
    · rw [off x hx] at e
      exact .inr ⟨hx, e⟩
  have injL : ∀ x y z, L[x]? = some z → L[y]? = some z → x = y := fun x y z e1 e2 => (List.getElem?_inj (List.getElem?_eq_some_iff.mp e1).1 h.lead.nd).mp (e1.trans e2.symm)
  have inj : ∀ x y z, (cyc27 L path path.length)[x]? = some z → (cyc27 L path path.length)[y]? = some z → x = y := fun x y z e1 e2 => by
    rcases val x z e1 with ⟨k, a1, a2⟩ | ⟨a1, a2⟩ <;> rcases val y z e2 with ⟨j, b1, b2⟩ | ⟨b1, b2⟩
    · have hk := (List.getElem?_eq_some_iff.mp a1).1
      have hj := (List.getElem?_eq_some_iff.mp b1).1
      have e3 := (List.getElem?_inj (List.getElem?_eq_some_iff.mp a2).1 nd).mp (a2.trans b2.symm)
      have : k = j := by
        rcases Nat.lt_or_ge (k + 1) path.length with u | u <;> rcases Nat.lt_or_ge (j + 1) path.length with v | v
        · rw [Nat.mod_eq_of_lt u, Nat.mod_eq_of_lt v] at e3; omega
        · rw [Nat.mod_eq_of_lt u, show j + 1 = path.length by omega, Nat.mod_self] at e3; omega
        · rw [Nat.mod_eq_of_lt v, show k + 1 = path.length by omega, Nat.mod_self] at e3; omega
        · omega
      subst this
      rw [a1] at b1
      exact Option.some.inj b1
    · have zp := List.mem_of_getElem? a2
      exact absurd (by rw [injL y z z b2 (h.fix z (hsub z zp))]; exact zp) b1
    · have zp := List.mem_of_getElem? b2
      exact absurd (by rw [injL x z z a2 (h.fix z (hsub z zp))]; exact zp) a1
    · exact injL x y z a2 b2
  refine ⟨⟨cl, ?_, fun x y e => ?_⟩, nd', fun x hx => h.lt x (hsub' x hx).1, fun x hx => by rw [off x (hsub' x hx).2]; exact h.fix x (hsub' x hx).1⟩
  · rw [List.Nodup, List.pairwise_iff_getElem]
    intro i j hi hj hij e
    have := inj i j _ (List.getElem?_eq_getElem hi) (by rw [List.getElem?_eq_getElem hj, e])
    omega
  · rcases val x y e with ⟨k, a1, a2⟩ | ⟨a1, a2⟩
    · have my := List.mem_of_getElem? a2
      exact ⟨h.lt y (hsub y my), hue y my x (List.mem_of_getElem? a1)⟩
    · exact h.lead.hue x y a2
/-- the rows of a table, one tie written -/
theorem tab_put27 {ms : List Int} {n : Nat} {T : List (List (List Int))} (h : TabP ms n T) {a b : Nat} {r : List (List Int)} {t : List Int} (hr : T[a]? = some r) (ht : TieP ms t) : TabP ms n (T.set a (r.set b t)) := by
  refine ⟨by rw [List.length_set]; exact h.1, fun i q e => ?_⟩
  by_cases z : a = i
  · subst z
    rw [List.getElem?_set_self (List.getElem?_eq_some_iff.mp hr).1] at e
    cases e
    obtain ⟨h1, h2⟩ := h.2 a r hr
    refine ⟨by rw [List.length_set]; exact h1, fun u hu => ?_⟩
    rcases List.mem_or_eq_of_mem_set hu with hu | hu
    · exact h2 u hu
    · rw [hu]; exact ht
  · rw [List.getElem?_set_ne z] at e
    exact h.2 i q e
/-- the rows of a table as items -/
abbrev rowsD27 (T : List (List (List Int))) : List (List D) := T.map fun r => r.map fun t => .tup (dints t)
theorem rowsD27_tab (T : List (List (List Int))) : D.tup ((rowsD27 T).map D.tup) = dtab T := by
  rw [dtab, List.map_map]; rfl
def toN27 : D → Nat
  | .int i => i.toNat
  | _ => 0
theorem perm_nats27 {es : List D} {L : List Nat} (h : es.Perm (dnats L)) : ∃ M : List Nat, es = dnats M ∧ M.Perm L := by
  refine ⟨es.map toN27, ?_, ?_⟩
  · rw [dnats, List.map_map]
    conv => lhs; rw [← List.map_id es]
    refine List.map_congr_left fun x hx => ?_
    obtain ⟨i, _, rfl⟩ := List.mem_map.mp (h.mem_iff.mp hx)
    rfl
  · have := h.map toN27
    rw [dnats, List.map_map] at this
    have e : L.map (toN27 ∘ fun (i : Nat) => D.int (i : Int)) = L := by
      conv => rhs; rw [← List.map_id L]
      refine List.map_congr_left fun x _ => ?_
      show (x : Int).toNat = x
      rw [Int.toNat_natCast]
    rwa [e] at this

section
variable {ms hs : List Int} {t : Turn}
/-- a bound of the lengths' common multiple: 3 ^ (stems / 3) -/
theorem cyc_lcm28 {ls : List Nat} (hi : Inj26 ls) (h16 : ls.length ≤ 16) : ∀ (k : Nat) (S : List Nat), S.length ≤ k → S.Nodup → (∀ x ∈ S, x < ls.length) → (∀ x ∈ S, ls.getD x 0 ∈ S) →
    ∃ m, 0 < m ∧ (∀ x ∈ S, per26 ls x + 1 ∣ m) ∧ m * m * m ≤ 3 ^ S.length
  | _, [], _, _, _, _ => ⟨1, by omega, (fun x hx => absurd hx List.not_mem_nil), by simp⟩
  | 0, _ :: _, hk, _, _, _ => by simp at hk
  | k + 1, x :: S, hk, nd, hlt, hcl => by
    have hx := hlt x List.mem_cons_self
    obtain ⟨p1, p2, p3⟩ := hi.per hx
    have itS : ∀ j, it26 ls j x ∈ x :: S := fun j => by
      induction j with
      | zero => exact List.mem_cons_self
      | succ j ih => exact hcl _ ih
    have rnd : (ringN26 ls x).Nodup := by
      unfold ringN26
      rw [List.Nodup, List.pairwise_map]
      refine List.nodup_range.imp_of_mem fun {a b} ha hb hne e => ?_
      rw [List.mem_range] at ha hb
      rcases Nat.lt_or_ge a b with z | z
      · obtain ⟨d, rfl⟩ : ∃ d, b = a + (d + 1) := ⟨b - a - 1, by omega⟩
        exact p3 d (by omega) (hi.cancel hx a (d + 1) e)
      · obtain ⟨d, rfl⟩ : ∃ d, a = b + (d + 1) := ⟨a - b - 1, by omega⟩
        exact p3 d (by omega) (hi.cancel hx b (d + 1) e.symm)
    have rlen : (ringN26 ls x).length = per26 ls x + 1 := by unfold ringN26; rw [List.length_map, List.length_range]
    have rsub : ∀ y ∈ ringN26 ls x, y ∈ x :: S := fun y hy => by
      obtain ⟨j, _, rfl⟩ := List.mem_map.mp hy
      exact itS j
    have rback : ∀ y < ls.length, ls.getD y 0 ∈ ringN26 ls x → y ∈ ringN26 ls x := fun y hy h => by
      obtain ⟨j, hj, e⟩ := List.mem_map.mp h
      rw [List.mem_range] at hj
      cases j with
      | zero =>
        have e1 : ls.getD (it26 ls (per26 ls x) x) 0 = ls.getD y 0 := p2.trans e
        have := hi.inj _ (hi.it_lt hx _) _ hy e1
        exact List.mem_map.mpr ⟨per26 ls x, List.mem_range.mpr (by omega), this⟩
      | succ j =>
        have := hi.inj _ (hi.it_lt hx j) _ hy e
        exact List.mem_map.mpr ⟨j, List.mem_range.mpr (by omega), this⟩
    obtain ⟨S', eS⟩ : ∃ S', S' = (x :: S).filter fun y => !(ringN26 ls x).contains y := ⟨_, rfl⟩
    have mS : ∀ y, y ∈ S' ↔ y ∈ x :: S ∧ y ∉ ringN26 ls x := fun y => by rw [eS, List.mem_filter]; simp
    have nS : S'.Nodup := by rw [eS]; exact nd.filter _
    have lenS : (ringN26 ls x).length + S'.length = (x :: S).length := by
      have hp : (ringN26 ls x ++ S').Perm (x :: S) := by
        refine (List.perm_ext_iff_of_nodup ?_ nd).mpr fun y => ?_
        · rw [List.nodup_append]
          exact ⟨rnd, nS, fun a ha b hb e => ((mS b).mp hb).2 (e ▸ ha)⟩
        · rw [List.mem_append, mS]
          constructor
          · rintro (h | h)
            · exact rsub y h
            · exact h.1
          · intro h
            by_cases z : y ∈ ringN26 ls x
            · exact .inl z
            · exact .inr ⟨h, z⟩
      rw [← hp.length_eq, List.length_append]
    obtain ⟨m, hm0, hm1, hm2⟩ := cyc_lcm28 hi h16 k S' (by rw [List.length_cons] at hk lenS; omega) nS (fun y hy => hlt y ((mS y).mp hy).1) fun y hy => by
      have hy2 := (mS y).mp hy
      exact (mS _).mpr ⟨hcl y hy2.1, fun h => hy2.2 (rback y (hlt y hy2.1) h)⟩
    refine ⟨(per26 ls x + 1) * m, Nat.mul_pos (by omega) hm0, fun y hy => ?_, ?_⟩
    · by_cases z : y ∈ ringN26 ls x
      · obtain ⟨j, _, rfl⟩ := List.mem_map.mp z
        refine Nat.dvd_trans ((it_dvd26 hi (hi.it_lt hx j)).mp ?_) (Nat.dvd_mul_right _ _)
        rw [← it_add26, Nat.add_comm, it_add26, p2]
      · exact Nat.dvd_trans (hm1 y ((mS y).mpr ⟨hy, z⟩)) (Nat.dvd_mul_left _ _)
    · rw [← lenS, rlen, Nat.pow_add]
      have hc : ∀ p, p < 17 → p * p * p ≤ 3 ^ p := by decide
      have := Nat.mul_le_mul (hc (per26 ls x + 1) (by omega)) hm2
      refine Nat.le_trans (Nat.le_of_eq ?_) this
      generalize per26 ls x + 1 = q
      rw [Nat.mul_mul_mul_comm q m q m, Nat.mul_mul_mul_comm (q * q) (m * m) q m]
theorem turns_bd28 (ht : TurnP ms hs t) (h16 : hs.length ≤ 16) : turns26 t ≤ 350 := by
  have hl := ht.lead.len
  have hi := lead_inj26 ht.lead
  obtain ⟨m, h0, h1, h2⟩ := cyc_lcm28 hi (by omega) _ (List.range t.1.length) (Nat.le_refl _) List.nodup_range (fun x hx => List.mem_range.mp hx) fun x hx => List.mem_range.mpr (hi.lt x (List.mem_range.mp hx))
  have h3 : turns26 t ∣ m := lcmL_dvd _ fun y hy => by
    obtain ⟨x, hx, rfl⟩ := List.mem_map.mp hy
    obtain ⟨k, hk, ek⟩ := List.getElem_of_mem hx
    have hyl : x < t.1.length := by
      have := hi.lt k hk
      rw [List.getD_eq_getElem?_getD, List.getElem?_eq_getElem hk] at this
      rw [← ek]; exact this
    exact h1 x (List.mem_range.mpr hyl)
  have h4 := Nat.le_of_dvd h0 h3
  rw [List.length_range] at h2
  have h5 : 3 ^ t.1.length ≤ 3 ^ 16 := Nat.pow_le_pow_right (by omega) (by omega)
  rcases Nat.lt_or_ge m 351 with z | z
  · omega
  · have h6 := Nat.mul_le_mul (Nat.mul_le_mul z z) z
    have h7 : (351 : Nat) * 351 * 351 = 43243551 := by decide
    have h8 : (3 : Nat) ^ 16 = 43046721 := by decide
    omega
theorem ord_bd28 (hM : MsP ms) (ht : TurnP ms hs t) (h16 : hs.length ≤ 16) : ord26 ms hs.length t ≤ 21000 := by
  have h1 := turns_bd28 ht h16
  have h2 : lcmL ((powT26 ms hs.length t (turns26 t)).2.flatMap fun r => r.map (ordF ms)) ∣ 60 := lcmL_dvd _ fun x hx => by
    obtain ⟨r, hr, hx⟩ := List.mem_flatMap.mp hx
    obtain ⟨τ, hτ, rfl⟩ := List.mem_map.mp hx
    obtain ⟨i, hi, ei⟩ := List.getElem_of_mem hr
    have hτ2 := ((pow_turn26 hM ht (turns26 t)).tab.2 i r (by rw [List.getElem?_eq_getElem hi, ei])).2 τ hτ
    exact ord_dvd26 hM hτ2 (zero60 hM hτ2)
  have h3 := Nat.le_of_dvd (by omega) h2
  exact Nat.mul_le_mul h1 h3
def itP28 (ms : List Int) (t : Turn) : Nat → Spot → Spot
  | 0, p => p
  | k + 1, p => ledP ms t (itP28 ms t k p)
theorem itP_add28 (a : Nat) (p : Spot) : ∀ b, itP28 ms t (a + b) p = itP28 ms t b (itP28 ms t a p)
  | 0 => rfl
  | b + 1 => by
    show ledP ms t (itP28 ms t (a + b) p) = ledP ms t (itP28 ms t b (itP28 ms t a p))
    rw [itP_add28 a p b]
theorem itP_pl28 (hM : MsP ms) (ht : TurnP ms hs t) {p : Spot} (hp : PlP ms hs.length p.1 p.2) : ∀ k, PlP ms hs.length (itP28 ms t k p).1 (itP28 ms t k p).2
  | 0 => hp
  | k + 1 => led_place hM ht (itP_pl28 hM ht hp k)
theorem itP_pow28 (hM : MsP ms) (ht : TurnP ms hs t) {p : Spot} (hp : PlP ms hs.length p.1 p.2) : ∀ k, itP28 ms t k p = ledP ms (powT26 ms hs.length t k) p
  | 0 => (still_led hM hp).symm
  | k + 1 => by
    show ledP ms t (itP28 ms t k p) = ledP ms (behT ms (powT26 ms hs.length t k) t) p
    rw [itP_pow28 hM ht hp k, beh_led hM (pow_turn26 hM ht k) ht hp]
theorem itP_ord28 (hM : MsP ms) (ht : TurnP ms hs t) {p : Spot} (hp : PlP ms hs.length p.1 p.2) : itP28 ms t (ord26 ms hs.length t) p = p := by
  rw [itP_pow28 hM ht hp, (pow_still26 hM ht _).mpr (Nat.dvd_refl _), still_led hM hp]
theorem itP_cancel28 (hM : MsP ms) (ht : TurnP ms hs t) {p : Spot} (hp : PlP ms hs.length p.1 p.2) : ∀ (i d : Nat), itP28 ms t i p = itP28 ms t (i + d) p → itP28 ms t d p = p
  | 0, d, e => by rw [Nat.zero_add] at e; exact e.symm
  | i + 1, d, e => by
    rw [show i + 1 + d = (i + d) + 1 by omega] at e
    exact itP_cancel28 hM ht hp i d (led_inj hM ht (itP_pl28 hM ht hp i) (itP_pl28 hM ht hp (i + d)) e)
/-- the length of a place's ring, less one -/
def perP28 (ms : List Int) (n : Nat) (t : Turn) (p : Spot) : Nat := ((List.range (ord26 ms n t)).find? fun k => decide (itP28 ms t (k + 1) p = p)).getD 0
theorem perP_spec28 (hM : MsP ms) (ht : TurnP ms hs t) {p : Spot} (hp : PlP ms hs.length p.1 p.2) :
    perP28 ms hs.length t p < ord26 ms hs.length t ∧ itP28 ms t (perP28 ms hs.length t p + 1) p = p ∧ ∀ k < perP28 ms hs.length t p, itP28 ms t (k + 1) p ≠ p := by
  have ho := ord_pos26 hM ht
  obtain ⟨k, hk⟩ : ∃ k, k + 1 = ord26 ms hs.length t := ⟨ord26 ms hs.length t - 1, by omega⟩
  obtain ⟨m, h1, h2, h3, h4⟩ := find_least26 (p := fun k => decide (itP28 ms t (k + 1) p = p)) (n := ord26 ms hs.length t) (k := k) (by omega) (by rw [hk, decide_eq_true (itP_ord28 hM ht hp)])
  have em : perP28 ms hs.length t p = m := by unfold perP28; rw [h1]; rfl
  rw [em]
  exact ⟨by omega, by simpa using h3, fun j hj => by simpa using h4 j hj⟩
def ringP28 (ms : List Int) (n : Nat) (t : Turn) (p : Spot) : List Spot := (List.range (perP28 ms n t p + 1)).map fun k => itP28 ms t k p
theorem ringP_len28 (n : Nat) (p : Spot) : (ringP28 ms n t p).length = perP28 ms n t p + 1 := by unfold ringP28; rw [List.length_map, List.length_range]
theorem ringP_get28 {n : Nat} {p : Spot} {k : Nat} (h : k ≤ perP28 ms n t p) : (ringP28 ms n t p)[k]? = some (itP28 ms t k p) := by
  unfold ringP28
  rw [List.getElem?_map, List.getElem?_range (by omega)]
  rfl
theorem ringP_nd28 (hM : MsP ms) (ht : TurnP ms hs t) {p : Spot} (hp : PlP ms hs.length p.1 p.2) : (ringP28 ms hs.length t p).Nodup := by
  obtain ⟨h1, h2, h3⟩ := perP_spec28 hM ht hp
  unfold ringP28
  rw [List.Nodup, List.pairwise_map]
  refine List.nodup_range.imp_of_mem fun {a b} ha hb hne e => ?_
  rw [List.mem_range] at ha hb
  rcases Nat.lt_or_ge a b with z | z
  · obtain ⟨d, rfl⟩ : ∃ d, b = a + (d + 1) := ⟨b - a - 1, by omega⟩
    exact h3 d (by omega) (itP_cancel28 hM ht hp a (d + 1) e)
  · obtain ⟨d, rfl⟩ : ∃ d, a = b + (d + 1) := ⟨a - b - 1, by omega⟩
    exact h3 d (by omega) (itP_cancel28 hM ht hp b (d + 1) e.symm)
theorem itP_mul28 {p : Spot} {q : Nat} (h : itP28 ms t q p = p) : ∀ j, itP28 ms t (q * j) p = p
  | 0 => rfl
  | j + 1 => by rw [Nat.mul_succ, itP_add28, itP_mul28 h j, h]
theorem itP_mod28 (hM : MsP ms) (ht : TurnP ms hs t) {p : Spot} (hp : PlP ms hs.length p.1 p.2) (k : Nat) : itP28 ms t k p = itP28 ms t (k % (perP28 ms hs.length t p + 1)) p := by
  conv => lhs; rw [← Nat.div_add_mod k (perP28 ms hs.length t p + 1), itP_add28, itP_mul28 (perP_spec28 hM ht hp).2.1]
/-- on the ring: where some number of times leads -/
theorem ringP_mem28 (hM : MsP ms) (ht : TurnP ms hs t) {p q : Spot} (hp : PlP ms hs.length p.1 p.2) : q ∈ ringP28 ms hs.length t p ↔ ∃ k, itP28 ms t k p = q := by
  constructor
  · intro h
    obtain ⟨k, _, e⟩ := List.mem_map.mp h
    exact ⟨k, e⟩
  · rintro ⟨k, rfl⟩
    rw [itP_mod28 hM ht hp]
    exact List.mem_map.mpr ⟨_, List.mem_range.mpr (Nat.mod_lt _ (by omega)), rfl⟩
theorem ringP_pl28 (hM : MsP ms) (ht : TurnP ms hs t) {p q : Spot} (hp : PlP ms hs.length p.1 p.2) (h : q ∈ ringP28 ms hs.length t p) : PlP ms hs.length q.1 q.2 := by
  obtain ⟨k, rfl⟩ := (ringP_mem28 hM ht hp).mp h
  exact itP_pl28 hM ht hp k
theorem itP_dvd28 (hM : MsP ms) (ht : TurnP ms hs t) {p : Spot} (hp : PlP ms hs.length p.1 p.2) {k : Nat} : itP28 ms t k p = p ↔ perP28 ms hs.length t p + 1 ∣ k := by
  obtain ⟨h1, h2, h3⟩ := perP_spec28 hM ht hp
  constructor
  · intro h
    rw [itP_mod28 hM ht hp] at h
    refine Nat.dvd_of_mod_eq_zero (Classical.byContradiction fun z => ?_)
    obtain ⟨j, hj⟩ : ∃ j, k % (perP28 ms hs.length t p + 1) = j + 1 := ⟨k % (perP28 ms hs.length t p + 1) - 1, by omega⟩
    rw [hj] at h
    have := Nat.mod_lt k (show 0 < perP28 ms hs.length t p + 1 by omega)
    exact h3 j (by omega) h
  · rintro ⟨j, rfl⟩
    exact itP_mul28 h2 j
theorem itP_back28 (hM : MsP ms) (ht : TurnP ms hs t) {p : Spot} (hp : PlP ms hs.length p.1 p.2) (k : Nat) : ∃ j, itP28 ms t j (itP28 ms t k p) = p := by
  obtain ⟨h1, h2, h3⟩ := perP_spec28 hM ht hp
  refine ⟨(perP28 ms hs.length t p + 1) * k - k, ?_⟩
  rw [← itP_add28, show k + ((perP28 ms hs.length t p + 1) * k - k) = (perP28 ms hs.length t p + 1) * k by
    have : k ≤ (perP28 ms hs.length t p + 1) * k := Nat.le_mul_of_pos_left k (by omega)
    omega]
  exact itP_mul28 h2 k
theorem ringP_same28 (hM : MsP ms) (ht : TurnP ms hs t) {p q : Spot} (hp : PlP ms hs.length p.1 p.2) (h : q ∈ ringP28 ms hs.length t p) (r : Spot) : r ∈ ringP28 ms hs.length t q ↔ r ∈ ringP28 ms hs.length t p := by
  have hq := ringP_pl28 hM ht hp h
  obtain ⟨k, rfl⟩ := (ringP_mem28 hM ht hp).mp h
  rw [ringP_mem28 hM ht hq, ringP_mem28 hM ht hp]
  constructor
  · rintro ⟨j, rfl⟩
    exact ⟨k + j, itP_add28 k p j⟩
  · rintro ⟨j, rfl⟩
    obtain ⟨i, hi⟩ := itP_back28 hM ht hp k
    exact ⟨i + j, by rw [itP_add28, hi]⟩
end
def preTi28 (C : Addr) (ds : List D) : Prop := ∃ (ms hs : List Int) (t : Turn) (p q : Spot), ds = [frD C ms hs, dturn t, dspot p, dspot q] ∧ MsP ms ∧ hs.length ≤ 16 ∧ TurnP ms hs t ∧ PlP ms hs.length p.1 p.2 ∧ PlP ms hs.length q.1 q.2
def fTi28 : List D → D
  | [.ins _ _ [.tup ms, _], t, p, q] => if uspot q ∈ ringP28 (uints ms) (uturn t).1.length (uturn t) (uspot p) then .int ((ringP28 (uints ms) (uturn t).1.length (uturn t) (uspot p)).idxOf (uspot q) : Nat) else .non
  | _ => .non
theorem fTi28_is (C : Addr) (ms hs : List Int) (t : Turn) (p q : Spot) : fTi28 [frD C ms hs, dturn t, dspot p, dspot q] =
    if q ∈ ringP28 ms t.1.length t p then .int ((ringP28 ms t.1.length t p).idxOf q : Nat) else .non := by
  show (if uspot (dspot q) ∈ ringP28 (uints (dints ms)) (uturn (dturn t)).1.length (uturn (dturn t)) (uspot (dspot p)) then D.int ((ringP28 (uints (dints ms)) (uturn (dturn t)).1.length (uturn (dturn t)) (uspot (dspot p))).idxOf (uspot (dspot q)) : Nat) else .non) = _
  rw [uints_dints, uturn_dturn, uspot_dspot, uspot_dspot]
def preRi28 (ds : List D) : Prop := ∃ (ms hs : List Int) (t : Turn) (p : Spot), ds = [.tup (dints ms), dturn t, dspot p] ∧ MsP ms ∧ hs.length ≤ 16 ∧ TurnP ms hs t ∧ PlP ms hs.length p.1 p.2
def fRi28 : List D → D
  | [.tup ms, t, p] => .lst ((ringP28 (uints ms) (uturn t).1.length (uturn t) (uspot p)).map dspot)
  | _ => .non
theorem fRi28_is (ms : List Int) (t : Turn) (p : Spot) : fRi28 [.tup (dints ms), dturn t, dspot p] = .lst ((ringP28 ms t.1.length t p).map dspot) := by
  show D.lst ((ringP28 (uints (dints ms)) (uturn (dturn t)).1.length (uturn (dturn t)) (uspot (dspot p))).map dspot) = _
  rw [uints_dints, uturn_dturn, uspot_dspot]
def psiSs28 (ds : List D) (m m' : Nat) (d : D) : Prop := m' ≤ m + 4000 ∧ ∃ (ms : List Int) (n k : Nat) (S : List Spot), ds = [.tup (dints ms), .int n, .int k] ∧ d = .lst (S.map dspot) ∧ S.length ≤ k ∧ S.Nodup ∧ (0 < k → S ≠ []) ∧ ∀ p ∈ S, PlP ms n p.1 p.2
theorem g_ss28 {Ψ : Nat → D → Prop} {m : Nat} {ms : List Int} {n k : Nat} (hm : m < 3000000) (hM : MsP ms) (h2 : 2 ≤ n) (h16 : n ≤ 16) (hk : k ≤ 20)
    (h : ∀ (m2 : Nat) (S : List Spot), m2 ≤ m + 4000 → S.length ≤ k → S.Nodup → (0 < k → S ≠ []) → (∀ p ∈ S, PlP ms n p.1 p.2) → Ψ m2 (.lst (S.map dspot))) :
    preSs35 m [.tup (dints ms), .int n, .int k] ∧ ∀ m2 d, psiSs28 [.tup (dints ms), .int n, .int k] m m2 d → Ψ m2 d := by
  refine ⟨⟨hm, ms, n, k, rfl, hM, h2, h16, hk⟩, fun m2 d q => ?_⟩
  obtain ⟨h1, ms2, n2, k2, S, e, rfl, h3, h4, h6, h5⟩ := q
  cases tup_inj (List.cons.inj e).1
  have : n = n2 := by have := D.int.inj (List.cons.inj (List.cons.inj e).2).1; omega
  subst this
  have : k = k2 := by have := D.int.inj (List.cons.inj (List.cons.inj (List.cons.inj e).2).2).1; omega
  subst this
  exact h m2 S h1 h3 h4 h6 h5
section
variable {K : PySem.W.Frag} {l : Option Addr} {ρ : Ro} {m : Nat} {Φ : Nat → D → Prop}
end
theorem idx_le28 : ∀ (R : List Spot) (k : Nat) (x : Spot), R[k]? = some x → R.idxOf x ≤ k
  | [], k, x, e => by simp at e
  | y :: R, 0, x, e => by
    cases e
    rw [List.idxOf_cons_self]
    exact Nat.le_refl _
  | y :: R, k + 1, x, e => by
    have := idx_le28 R k x e
    rw [List.idxOf_cons]
    cases (y == x) <;> simp <;> omega
theorem idx_at28 {R : List Spot} {x : Spot} (hx : x ∈ R) : R[R.idxOf x]? = some x := by
  have h1 := List.idxOf_lt_length_of_mem hx
  rw [List.getElem?_eq_getElem h1, List.getElem_idxOf h1]
section
variable {K : PySem.W.Frag} {l : Option Addr} {ρ : Ro} {m : Nat} {Φ : Nat → D → Prop}
/-- where a place is in a list: goal of e_idxLD behind the place's value -/
theorem idxL28 {ms : List Int} {n : Nat} {R : List Spot} {x : Spot} {Q : Nat → Prop} (hM : MsP ms) (hn : n ≤ 17) (hp : ∀ p ∈ R, PlP ms n p.1 p.2) (hx : x ∈ R) (q : Q (R.idxOf x)) :
    Eqs (dspot x) ∧ ∃ (j : Nat) (z : D), (R.map dspot)[j]? = some z ∧ PyData.eqv z.py (dspot x).py = true ∧ (∀ c z', c < j → (R.map dspot)[c]? = some z' → PyData.eqv z'.py (dspot x).py = false) ∧ Q j := by
  have num : ∀ p, PlP ms n p.1 p.2 → Num 3 1700 (dspot p) := fun p hp => num_place hM hn hp.lt hp.len hp.tie
  have nx := num x (hp x hx)
  refine ⟨nx.eqs (by omega), R.idxOf x, dspot x, by rw [List.getElem?_map, idx_at28 hx]; rfl, nx.same, fun c z' hc hz => ?_, q⟩
  rw [List.getElem?_map, Option.map_eq_some_iff] at hz
  obtain ⟨y, hy, rfl⟩ := hz
  refine (num y (hp y (List.mem_of_getElem? hy))).other nx fun e => ?_
  have e2 := congrArg uspot e
  rw [uspot_dspot, uspot_dspot] at e2
  subst e2
  have := idx_le28 R c y hy
  omega
end
theorem idx_eq28 {R : List Spot} (nd : R.Nodup) {j : Nat} {x : Spot} (h : R[j]? = some x) : R.idxOf x = j := by
  have h2 := idx_at28 (List.mem_of_getElem? h)
  exact (List.getElem?_inj (List.getElem?_eq_some_iff.mp h2).1 nd).mp (h2.trans h.symm)
section
variable {ms hs : List Int} {t : Turn}
theorem per_same28 (hM : MsP ms) (ht : TurnP ms hs t) {p : Spot} (hp : PlP ms hs.length p.1 p.2) (k : Nat) : perP28 ms hs.length t (itP28 ms t k p) = perP28 ms hs.length t p := by
  have hq := itP_pl28 hM ht hp k
  have key : ∀ j, itP28 ms t j (itP28 ms t k p) = itP28 ms t k p ↔ itP28 ms t j p = p := fun j => by
    rw [← itP_add28]
    constructor
    · intro e
      exact itP_cancel28 hM ht hp k j e.symm
    · intro e
      rw [Nat.add_comm, itP_add28, e]
  have h1 : perP28 ms hs.length t p + 1 ∣ perP28 ms hs.length t (itP28 ms t k p) + 1 := (itP_dvd28 hM ht hp).mp ((key _).mp (perP_spec28 hM ht hq).2.1)
  have h2 : perP28 ms hs.length t (itP28 ms t k p) + 1 ∣ perP28 ms hs.length t p + 1 := (itP_dvd28 hM ht hq).mp ((key _).mpr (perP_spec28 hM ht hp).2.1)
  have := Nat.dvd_antisymm h1 h2
  omega
/-- from a place on the ring back to where it starts -/
theorem back_idx28 (hM : MsP ms) (ht : TurnP ms hs t) {p : Spot} (hp : PlP ms hs.length p.1 p.2) {k : Nat} (h0 : 0 < k) (hk : k ≤ perP28 ms hs.length t p) :
    p ∈ ringP28 ms hs.length t (itP28 ms t k p) ∧ (ringP28 ms hs.length t (itP28 ms t k p)).idxOf p = perP28 ms hs.length t p + 1 - k := by
  have hq := itP_pl28 hM ht hp k
  have e := ringP_get28 (ms := ms) (t := t) (n := hs.length) (p := itP28 ms t k p) (k := perP28 ms hs.length t p + 1 - k) (by rw [per_same28 hM ht hp]; omega)
  rw [← itP_add28, show k + (perP28 ms hs.length t p + 1 - k) = perP28 ms hs.length t p + 1 by omega, (perP_spec28 hM ht hp).2.1] at e
  exact ⟨List.mem_of_getElem? e, idx_eq28 (ringP_nd28 hM ht hq) e⟩
theorem off_back28 (hM : MsP ms) (ht : TurnP ms hs t) {p q : Spot} (hp : PlP ms hs.length p.1 p.2) (hq : PlP ms hs.length q.1 q.2) (h : q ∉ ringP28 ms hs.length t p) : p ∉ ringP28 ms hs.length t q := fun z => by
  have h1 := (ringP_same28 hM ht hq z q).mpr ((ringP_mem28 hM ht hq).mpr ⟨0, rfl⟩)
  exact h h1
end

abbrev ms29 : List Int := [5, 3, 2]
theorem ms29_q : MsQ ms29 := ⟨⟨by decide, by decide, by decide⟩, by decide⟩
def tieB29 (a : List Int) : Prop := ∃ x y : Nat, x < 4 ∧ y < 2 ∧ a = [((1 + x : Nat) : Int), ((1 + y : Nat) : Int), 1]
theorem tieB29_tie {a : List Int} (h : tieB29 a) : TieP ms29 a := by
  obtain ⟨x, y, hx, hy, rfl⟩ := h
  refine ⟨rfl, fun c m z hm hz => ?_⟩
  match c, hm, hz with
  | 0, hm, hz => cases hm; cases hz; omega
  | 1, hm, hz => cases hm; cases hz; omega
  | 2, hm, hz => cases hm; cases hz; omega
  | c + 3, hm, _ => simp at hm
def chain29 (L : List Nat) (o : List Nat) : List Nat := cyc27 (cyc27 (cyc27 L (o.take 3) (o.take 3).length) ((o.drop 3).take 4) ((o.drop 3).take 4).length) (o.drop 7) (o.drop 7).length
theorem parts29 (o : List Nat) : o = o.take 3 ++ ((o.drop 3).take 4 ++ o.drop 7) := by
  rw [show o.drop 7 = (o.drop 3).drop 4 by rw [List.drop_drop], List.take_append_drop, List.take_append_drop]
/-- what is at a and b, whichever is greater, is z -/
def put29 (T : List (List (List Int))) (a b : Nat) (z : List Int) : List (List (List Int)) := T.set (max a b) ((T.getD (max a b) []).set (min a b) z)
structure Long29 (t : Turn) (o : List Nat) : Prop where
  perm : o.Perm (List.range 12)
  turn : ∀ h : Int, TurnP ms29 (List.replicate 12 h) t
  lead : t.1 = chain29 (List.range 12) o
  ties : ∃ a b, tieB29 a ∧ tieB29 b ∧ t.2 = put29 (put29 (constT [0, 0, 0] 12) (o.getD 0 0) (o.getD 3 0) a) (o.getD 0 0) (o.getD 7 0) b
def preLg29 (m : Nat) (ds : List D) : Prop := m < 5000000 ∧ ds = []
def psiLg29 (ds : List D) (m m' : Nat) (d : D) : Prop := m' ≤ m + 300 ∧ ∃ (t : Turn) (o : List Nat), d = .tup [dturn t, .lst (dnats o)] ∧ Long29 t o
theorem g_long29 {Ψ : Nat → D → Prop} {m : Nat} (hm : m < 5000000) (h : ∀ (m2 : Nat) t o, m2 ≤ m + 300 → Long29 t o → Ψ m2 (.tup [dturn t, .lst (dnats o)])) : preLg29 m [] ∧ ∀ m2 d, psiLg29 [] m m2 d → Ψ m2 d := by
  refine ⟨⟨hm, rfl⟩, fun m2 d q => ?_⟩
  obtain ⟨h1, t, o, rfl, h2⟩ := q
  exact h m2 t o h1 h2
theorem cyc_same29 {K K' path : List Nat} (hn : path.Nodup) (hk : ∀ x ∈ path, x < K.length) (hk' : ∀ x ∈ path, x < K'.length) {x : Nat} (h : x ∈ path ∨ K[x]? = K'[x]?) : (cyc27 K path path.length)[x]? = (cyc27 K' path path.length)[x]? := by
  by_cases hx : x ∈ path
  · obtain ⟨k, hk2, ek⟩ := List.getElem_of_mem hx
    have e : path[k]? = some x := by rw [List.getElem?_eq_getElem hk2, ek]
    rw [cyc27_on hn hk _ (Nat.le_refl _) hk2 e, cyc27_on hn hk' _ (Nat.le_refl _) hk2 e]
  · rw [cyc27_off _ (Nat.le_refl _) fun k _ e => hx (List.mem_of_getElem? e), cyc27_off _ (Nat.le_refl _) fun k _ e => hx (List.mem_of_getElem? e)]
    exact h.elim (fun z => absurd z hx) id
theorem chain29_any {o : List Nat} (ho : o.Perm (List.range 12)) {L M : List Nat} (hL : L.length = 12) (hM : M.length = 12) : chain29 L o = chain29 M o := by
  have nd : o.Nodup := ho.nodup_iff.mpr List.nodup_range
  have hm : ∀ x, x ∈ o ↔ x < 12 := fun x => by rw [ho.mem_iff, List.mem_range]
  have po := parts29 o
  unfold chain29
  generalize o.take 3 = p1 at po ⊢
  generalize (o.drop 3).take 4 = p2 at po ⊢
  generalize o.drop 7 = p3 at po ⊢
  subst po
  obtain ⟨n1, n23, d1⟩ := List.nodup_append.mp nd
  obtain ⟨n2, n3, d2⟩ := List.nodup_append.mp n23
  have l1 : ∀ x ∈ p1, x < 12 := fun x hx => (hm x).mp (List.mem_append.mpr (.inl hx))
  have l2 : ∀ x ∈ p2, x < 12 := fun x hx => (hm x).mp (List.mem_append.mpr (.inr (List.mem_append.mpr (.inl hx))))
  have l3 : ∀ x ∈ p3, x < 12 := fun x hx => (hm x).mp (List.mem_append.mpr (.inr (List.mem_append.mpr (.inr hx))))
  refine List.ext_getElem? fun x => ?_
  rcases Nat.lt_or_ge x 12 with z | z
  · have hx := (hm x).mpr z
    refine cyc_same29 n3 (by rw [cyc27_len, cyc27_len, hL]; exact l3) (by rw [cyc27_len, cyc27_len, hM]; exact l3) ?_
    by_cases h3 : x ∈ p3
    · exact .inl h3
    refine .inr (cyc_same29 n2 (by rw [cyc27_len, hL]; exact l2) (by rw [cyc27_len, hM]; exact l2) ?_)
    by_cases h2 : x ∈ p2
    · exact .inl h2
    refine .inr (cyc_same29 n1 (by rw [hL]; exact l1) (by rw [hM]; exact l1) (.inl ?_))
    rcases List.mem_append.mp hx with h | h
    · exact h
    · exact absurd (List.mem_append.mp h) (fun h => h.elim h2 h3)
  · rw [List.getElem?_eq_none (by rw [cyc27_len, cyc27_len, cyc27_len]; omega), List.getElem?_eq_none (by rw [cyc27_len, cyc27_len, cyc27_len]; omega)]
theorem chain29_lead {o : List Nat} (ho : o.Perm (List.range 12)) (h : Int) : LeadP (List.replicate 12 h) (chain29 (List.range 12) o) := by
  have nd : o.Nodup := ho.nodup_iff.mpr List.nodup_range
  have hr : (List.replicate 12 h).length = 12 := by simp
  have h0 := Rd27.start (List.replicate 12 h) (left := o) (by rw [hr]; exact ho)
  rw [hr] at h0
  have hue : ∀ x ∈ o, ∀ y ∈ o, (List.replicate 12 h)[x]? = (List.replicate 12 h)[y]? := fun x hx y hy => by
    have hx := List.mem_range.mp (ho.mem_iff.mp hx)
    have hy := List.mem_range.mp (ho.mem_iff.mp hy)
    rw [List.getElem?_replicate, List.getElem?_replicate, if_pos hx, if_pos hy]
  have po := parts29 o
  unfold chain29
  generalize o.take 3 = p1 at po ⊢
  generalize (o.drop 3).take 4 = p2 at po ⊢
  generalize o.drop 7 = p3 at po ⊢
  subst po
  obtain ⟨n1, n23, d1⟩ := List.nodup_append.mp nd
  obtain ⟨n2, n3, d2⟩ := List.nodup_append.mp n23
  have i1 : ∀ x ∈ p1, x ∈ p1 ++ (p2 ++ p3) := fun x hx => List.mem_append.mpr (.inl hx)
  have i2 : ∀ x ∈ p2, x ∈ p1 ++ (p2 ++ p3) := fun x hx => List.mem_append.mpr (.inr (List.mem_append.mpr (.inl hx)))
  have i3 : ∀ x ∈ p3, x ∈ p1 ++ (p2 ++ p3) := fun x hx => List.mem_append.mpr (.inr (List.mem_append.mpr (.inr hx)))
  have h1 := h0.step n1 i1 (fun x hx y hy => hue x (i1 x hx) y (i1 y hy)) n23 (fun x hx => ⟨List.mem_append.mpr (.inr hx), fun h => d1 x h x hx rfl⟩)
  have h2 := h1.step n2 (fun x hx => List.mem_append.mpr (.inl hx)) (fun x hx y hy => hue x (i2 x hx) y (i2 y hy)) n3 (fun x hx => ⟨List.mem_append.mpr (.inr hx), fun h => d2 x h x hx rfl⟩)
  have h3 := h2.step (left' := []) n3 (fun x hx => hx) (fun x hx y hy => hue x (i3 x hx) y (i3 y hy)) .nil (fun x hx => absurd hx List.not_mem_nil)
  exact h3.lead
def st29 (L : List Nat) (ps : List (List Nat)) (c : Nat) : List Nat := (ps.take c).foldl (fun L p => cyc27 L p p.length) L
theorem st29_len (L : List Nat) (ps : List (List Nat)) : ∀ c, (st29 L ps c).length = L.length
  | 0 => rfl
  | c + 1 => by
    have ih := st29_len L ps c
    unfold st29 at ih ⊢
    rw [List.take_add_one]
    cases h : ps[c]? with
    | none => rw [Option.toList_none, List.append_nil]; exact ih
    | some p => rw [Option.toList_some, List.foldl_append, List.foldl_cons, List.foldl_nil, cyc27_len]; exact ih
theorem st29_succ (L : List Nat) (ps : List (List Nat)) {c : Nat} {p : List Nat} (h : ps[c]? = some p) : st29 L ps (c + 1) = cyc27 (st29 L ps c) p p.length := by
  unfold st29
  rw [List.take_add_one, h, Option.toList_some, List.foldl_append]
  rfl
theorem rows_put29 {T : List (List (List Int))} {a b : Nat} {r : List (List Int)} (z : List Int) (hr : T[max a b]? = some r) :
    rowsD27 (put29 T a b z) = (rowsD27 T).set (max a b) ((r.map fun t => D.tup (dints t)).set (min a b) (.tup (dints z))) := by
  have e : T.getD (max a b) [] = r := by rw [List.getD_eq_getElem?_getD, hr]; rfl
  unfold put29
  rw [e]
  show (T.set (max a b) (r.set (min a b) z)).map (fun r => r.map fun t => D.tup (dints t)) = _
  rw [List.map_set, List.map_set]
theorem tab_put29 {ms : List Int} {n : Nat} {T : List (List (List Int))} (h : TabP ms n T) {a b : Nat} {z : List Int} (hz : TieP ms z) (hm : max a b < n) : TabP ms n (put29 T a b z) := by
  have hr : T[max a b]? = some (T.getD (max a b) []) := by
    rw [List.getD_eq_getElem?_getD, List.getElem?_eq_getElem (by rw [h.1]; exact hm)]; rfl
  exact tab_put27 h hr hz
theorem tie0_29 : TieP ms29 [0, 0, 0] := ⟨rfl, fun c m z hm hz => by
  match c, hm, hz with
  | 0, hm, hz => cases hm; cases hz; decide
  | 1, hm, hz => cases hm; cases hz; decide
  | 2, hm, hz => cases hm; cases hz; decide
  | c + 3, hm, _ => simp at hm⟩

def preFr42 (m : Nat) (ds : List D) : Prop := m < 4000000 ∧ ds = []
def psiFr42 (ds : List D) (m m' : Nat) (d : D) : Prop := m' ≤ m + 400 ∧ d = .bl true
theorem spots_num42 {ms : List Int} {n : Nat} {R : List Spot} (hM : MsP ms) (hn : n ≤ 17) (hp : ∀ p ∈ R, PlP ms n p.1 p.2) : Eqs (.lst (R.map dspot)) := by
  have := Num.lst (k := 3) (w := 1700) (xs := R.map dspot) fun x hx => by
    obtain ⟨p, hp2, rfl⟩ := List.mem_map.mp hx
    exact num_place hM hn (hp p hp2).lt (hp p hp2).len (hp p hp2).tie
  exact this.eqs (by omega)
theorem zero_pl42 {o0 : Nat} (h : o0 < 12) : PlP ms29 12 o0 (List.replicate 12 [0, 0, 0]) :=
  ⟨h, by simp, fun t ht => by rw [List.eq_of_mem_replicate ht]; exact tie0_29, by rw [List.getElem?_replicate, if_pos h]; rfl⟩

section
variable {t : Turn} {o : List Nat}
theorem chainp30 {p1 p2 p3 K : List Nat} (nd : (p1 ++ (p2 ++ p3)).Nodup) (hK : K.length = 12) (lt : ∀ x ∈ p1 ++ (p2 ++ p3), x < 12) :
    (∀ k x, p1[k]? = some x → (cyc27 (cyc27 (cyc27 K p1 p1.length) p2 p2.length) p3 p3.length)[x]? = some (p1.getD ((k + 1) % p1.length) 0)) ∧
    (∀ k x, p2[k]? = some x → (cyc27 (cyc27 (cyc27 K p1 p1.length) p2 p2.length) p3 p3.length)[x]? = some (p2.getD ((k + 1) % p2.length) 0)) ∧
    (∀ k x, p3[k]? = some x → (cyc27 (cyc27 (cyc27 K p1 p1.length) p2 p2.length) p3 p3.length)[x]? = some (p3.getD ((k + 1) % p3.length) 0)) := by
  obtain ⟨n1, n23, d1⟩ := List.nodup_append.mp nd
  obtain ⟨n2, n3, d2⟩ := List.nodup_append.mp n23
  have i1 : ∀ x ∈ p1, x ∈ p1 ++ (p2 ++ p3) := fun x hx => List.mem_append.mpr (.inl hx)
  have i2 : ∀ x ∈ p2, x ∈ p1 ++ (p2 ++ p3) := fun x hx => List.mem_append.mpr (.inr (List.mem_append.mpr (.inl hx)))
  have i3 : ∀ x ∈ p3, x ∈ p1 ++ (p2 ++ p3) := fun x hx => List.mem_append.mpr (.inr (List.mem_append.mpr (.inr hx)))
  have off : ∀ (K path : List Nat) (x : Nat), x ∉ path → (cyc27 K path path.length)[x]? = K[x]? := fun K path x hx => cyc27_off _ (Nat.le_refl _) fun k _ e => hx (List.mem_of_getElem? e)
  refine ⟨fun k x e => ?_, fun k x e => ?_, fun k x e => ?_⟩
  · have hx := List.mem_of_getElem? e
    rw [off _ p3 x (fun h => d1 x hx x (List.mem_append.mpr (.inr h)) rfl), off _ p2 x (fun h => d1 x hx x (List.mem_append.mpr (.inl h)) rfl)]
    exact cyc27_on n1 (fun y hy => by rw [hK]; exact lt y (i1 y hy)) _ (Nat.le_refl _) (List.getElem?_eq_some_iff.mp e).1 e
  · have hx := List.mem_of_getElem? e
    rw [off _ p3 x (fun h => d2 x hx x h rfl)]
    exact cyc27_on n2 (fun y hy => by rw [cyc27_len, hK]; exact lt y (i2 y hy)) _ (Nat.le_refl _) (List.getElem?_eq_some_iff.mp e).1 e
  · exact cyc27_on n3 (fun y hy => by rw [cyc27_len, cyc27_len, hK]; exact lt y (i3 y hy)) _ (Nat.le_refl _) (List.getElem?_eq_some_iff.mp e).1 e
theorem it30 {ls p : List Nat} (h : ∀ k x, p[k]? = some x → ls[x]? = some (p.getD ((k + 1) % p.length) 0)) {s : Nat} (hs : s < p.length) : ∀ i, it26 ls i (p.getD s 0) = p.getD ((s + i) % p.length) 0
  | 0 => by rw [Nat.add_zero, Nat.mod_eq_of_lt hs]; rfl
  | i + 1 => by
    show ls.getD (it26 ls i (p.getD s 0)) 0 = _
    rw [it30 h hs i]
    have hm := Nat.mod_lt (s + i) (show 0 < p.length by omega)
    have e := h ((s + i) % p.length) (p.getD ((s + i) % p.length) 0) (by rw [List.getD_eq_getElem?_getD, List.getElem?_eq_getElem hm]; rfl)
    rw [List.getD_eq_getElem?_getD, e, Nat.mod_add_mod]
    rfl
theorem tab_put30 {ms : List Int} {n : Nat} {T : List (List (List Int))} (hT : TabP ms n T) {u v x y : Nat} {z : List Int} (hu : u < n) (hv : v < n) (huv : u ≠ v) (hxy : x ≠ y) :
    tabT (put29 T u v z) x y = if (x = u ∧ y = v) ∨ (x = v ∧ y = u) then z else tabT T x y := by
  obtain ⟨row, hrow⟩ : ∃ row, T[max u v]? = some row := ⟨_, List.getElem?_eq_getElem (by rw [hT.1]; omega)⟩
  obtain ⟨hrl, _⟩ := hT.2 _ row hrow
  have eD : T.getD (max u v) [] = row := by rw [List.getD_eq_getElem?_getD, hrow]; rfl
  have key : ∀ i j, j < i → tt (put29 T u v z) i j = if i = max u v ∧ j = min u v then z else tt T i j := fun i j hji => by
    unfold tt put29
    rw [eD]
    by_cases e : i = max u v
    · subst e
      have e1 : (T.set (max u v) (row.set (min u v) z)).getD (max u v) [] = row.set (min u v) z := by
        rw [List.getD_eq_getElem?_getD, List.getElem?_set_self (by rw [hT.1]; omega)]; rfl
      rw [e1, eD]
      by_cases e2 : j = min u v
      · subst e2
        rw [if_pos ⟨rfl, rfl⟩, List.getD_eq_getElem?_getD, List.getElem?_set_self (by omega)]
        rfl
      · rw [if_neg (fun h => e2 h.2), List.getD_eq_getElem?_getD, List.getElem?_set_ne (Ne.symm e2), List.getD_eq_getElem?_getD]
    · have e3 : (T.set (max u v) (row.set (min u v) z)).getD i [] = T.getD i [] := by
        rw [List.getD_eq_getElem?_getD, List.getElem?_set_ne (Ne.symm e), ← List.getD_eq_getElem?_getD]
      rw [if_neg (fun h => e h.1), e3]
  rcases Nat.lt_or_ge y x with h | h
  · rw [tabT_gt h, tabT_gt h, key x y h]
    by_cases e : (x = u ∧ y = v) ∨ (x = v ∧ y = u)
    · rw [if_pos e, if_pos (by omega)]
    · rw [if_neg e, if_neg (by omega)]
  · rw [tabT_le (show ¬ y < x by omega), tabT_le (show ¬ y < x by omega), key y x (by omega)]
    by_cases e : (x = u ∧ y = v) ∨ (x = v ∧ y = u)
    · rw [if_pos e, if_pos (by omega)]
    · rw [if_neg e, if_neg (by omega)]
/-- how often in so many steps the first is home while the other one is there -/
def cN30 (q s : Nat) : Nat → Nat
  | 0 => 0
  | k + 1 => cN30 q s k + if k % 3 = 0 ∧ (s + k) % q = 0 then 1 else 0
theorem cN_per30 {q s P : Nat} (h3 : P % 3 = 0) (hq : P % q = 0) : ∀ k, cN30 q s (P + k) = cN30 q s P + cN30 q s k
  | 0 => rfl
  | k + 1 => by
    show cN30 q s (P + k) + (if (P + k) % 3 = 0 ∧ (s + (P + k)) % q = 0 then 1 else 0) = cN30 q s P + (cN30 q s k + if k % 3 = 0 ∧ (s + k) % q = 0 then 1 else 0)
    rw [cN_per30 h3 hq k]
    have e1 : (P + k) % 3 = k % 3 := by omega
    have e2 : (s + (P + k)) % q = (s + k) % q := by
      rw [show s + (P + k) = P + (s + k) by omega, Nat.add_mod, hq, Nat.zero_add, Nat.mod_mod]
    rw [e1, e2]
    omega
theorem cN_mul30 {q s P : Nat} (h3 : P % 3 = 0) (hq : P % q = 0) (h1 : cN30 q s P = 1) (k : Nat) : ∀ j, cN30 q s (P * j + k) = j + cN30 q s k
  | 0 => by rw [Nat.mul_zero, Nat.zero_add, Nat.zero_add]
  | j + 1 => by
    rw [Nat.mul_succ, Nat.add_assoc, show P * j + (P + k) = P + (P * j + k) by omega, cN_per30 h3 hq, h1, cN_mul30 h3 hq h1 k j]
    omega
theorem cN4_30 (k s : Nat) (hs : s < 4) : cN30 4 s k = k / 12 + cN30 4 s (k % 12) := by
  have h1 : cN30 4 s 12 = 1 := by revert s; decide
  have := cN_mul30 (q := 4) (s := s) (P := 12) (by decide) (by decide) h1 (k % 12) (k / 12)
  rwa [Nat.div_add_mod] at this
theorem cN5_30 (k s : Nat) (hs : s < 5) : cN30 5 s k = k / 15 + cN30 5 s (k % 15) := by
  have h1 : cN30 5 s 15 = 1 := by revert s; decide
  have := cN_mul30 (q := 5) (s := s) (P := 15) (by decide) (by decide) h1 (k % 15) (k / 15)
  rwa [Nat.div_add_mod] at this
theorem all30 (k : Nat) : (3 ∣ k ∧ (∀ s < 4, 30 ∣ cN30 4 s k) ∧ ∀ s < 5, 30 ∣ cN30 5 s k) ↔ 1800 ∣ k := by
  constructor
  · rintro ⟨h3, h4, h5⟩
    have r4 : k % 12 = 0 := by
      have a0 := h4 0 (by omega)
      have a1 := h4 1 (by omega)
      have a2 := h4 2 (by omega)
      have a3 := h4 3 (by omega)
      rw [cN4_30 _ _ (by omega)] at a0 a1 a2 a3
      have hr : k % 12 = 0 ∨ k % 12 = 3 ∨ k % 12 = 6 ∨ k % 12 = 9 := by omega
      rcases hr with e | e | e | e
      · exact e
      · rw [e, show cN30 4 0 3 = 1 by decide] at a0
        rw [e, show cN30 4 1 3 = 0 by decide] at a1
        omega
      · rw [e, show cN30 4 0 6 = 1 by decide] at a0
        rw [e, show cN30 4 2 6 = 0 by decide] at a2
        omega
      · rw [e, show cN30 4 0 9 = 1 by decide] at a0
        rw [e, show cN30 4 3 9 = 0 by decide] at a3
        omega
    have r5 : k % 15 = 0 := by
      have a0 := h5 0 (by omega)
      have a3 := h5 3 (by omega)
      rw [cN5_30 _ _ (by omega)] at a0 a3
      have hr : k % 15 = 0 ∨ k % 15 = 3 ∨ k % 15 = 6 ∨ k % 15 = 9 ∨ k % 15 = 12 := by omega
      rcases hr with e | e | e | e | e
      · exact e
      · rw [e, show cN30 5 0 3 = 1 by decide] at a0
        rw [e, show cN30 5 3 3 = 0 by decide] at a3
        omega
      · rw [e, show cN30 5 0 6 = 1 by decide] at a0
        rw [e, show cN30 5 3 6 = 0 by decide] at a3
        omega
      · rw [e, show cN30 5 0 9 = 1 by decide] at a0
        rw [e, show cN30 5 3 9 = 0 by decide] at a3
        omega
      · rw [e, show cN30 5 0 12 = 1 by decide] at a0
        rw [e, show cN30 5 3 12 = 0 by decide] at a3
        omega
    have b0 := h4 0 (by omega)
    have c0 := h5 0 (by omega)
    rw [cN4_30 _ _ (by omega), r4, show cN30 4 0 0 = 0 from rfl] at b0
    rw [cN5_30 _ _ (by omega), r5, show cN30 5 0 0 = 0 from rfl] at c0
    omega
  · intro h
    refine ⟨by omega, fun s hs => ?_, fun s hs => ?_⟩
    · rw [cN4_30 _ _ hs, show k % 12 = 0 by omega, show cN30 4 s 0 = 0 from rfl]
      omega
    · rw [cN5_30 _ _ hs, show k % 15 = 0 by omega, show cN30 5 s 0 = 0 from rfl]
      omega
theorem tieB_dvd30 {a : List Int} (h : tieB29 a) (N : Nat) : (∀ (c : Nat) m, ms29[c]? = some m → m ∣ (N : Int) * a.getD c 0) ↔ 30 ∣ N := by
  obtain ⟨x, y, hx, hy, rfl⟩ := h
  constructor
  · intro h
    have h0 := h 0 5 rfl
    have h1 := h 1 3 rfl
    have h2 := h 2 2 rfl
    have h0 : (5 : Int) ∣ (N : Int) * ((1 + x : Nat) : Int) := h0
    have h1 : (3 : Int) ∣ (N : Int) * ((1 + y : Nat) : Int) := h1
    have h2 : (2 : Int) ∣ (N : Int) * 1 := h2
    have d5 : 5 ∣ N := by
      have : x = 0 ∨ x = 1 ∨ x = 2 ∨ x = 3 := by omega
      rcases this with rfl | rfl | rfl | rfl <;> omega
    have d3 : 3 ∣ N := by
      have : y = 0 ∨ y = 1 := by omega
      rcases this with rfl | rfl <;> omega
    omega
  · rintro ⟨w, rfl⟩ c m hm
    match c, hm with
    | 0, hm => cases hm; exact ⟨6 * (w : Int) * ((1 + x : Nat) : Int), by show ((30 * w : Nat) : Int) * ((1 + x : Nat) : Int) = _; rw [Int.natCast_mul, ← Int.mul_assoc, ← Int.mul_assoc]; rfl⟩
    | 1, hm => cases hm; exact ⟨10 * (w : Int) * ((1 + y : Nat) : Int), by show ((30 * w : Nat) : Int) * ((1 + y : Nat) : Int) = _; rw [Int.natCast_mul, ← Int.mul_assoc, ← Int.mul_assoc]; rfl⟩
    | 2, hm => cases hm; exact ⟨15 * (w : Int), by show ((30 * w : Nat) : Int) * 1 = _; rw [Int.natCast_mul, ← Int.mul_assoc, Int.mul_one]; rfl⟩
    | c + 3, hm => simp at hm
/-- a power's tie of two, gathered -/
theorem pow_sum30 {ms hs : List Int} (hM : MsP ms) (ht : TurnP ms hs t) {x y c : Nat} {m : Int} (hx : x < hs.length) (hy : y < hs.length) (hxy : x ≠ y) (hm : ms[c]? = some m) (k : Nat) :
    (tabT (powT26 ms hs.length t k).2 x y)[c]? = some (sum39 t x y c k % m) := by
  rcases Nat.lt_or_ge y x with h | h
  · exact pow_sum39 hM ht hx h hm k
  · have e : sum39 t x y c k = sum39 t y x c k := by
      have hi := lead_inj26 ht.lead
      have hl := ht.lead.len
      unfold sum39
      congr 1
      refine List.map_congr_left fun i _ => ?_
      unfold tau39
      rw [tab_sym39 _ (it_inj39 hi (by omega) (by omega) hxy i)]
    rw [tab_sym39 _ hxy, e]
    exact pow_sum39 hM ht hy (by omega) hm k
theorem pow_zero30 {ms hs : List Int} (hM : MsP ms) (ht : TurnP ms hs t) {x y : Nat} (hx : x < hs.length) (hy : y < hs.length) (hxy : x ≠ y) (k : Nat) :
    tabT (powT26 ms hs.length t k).2 x y = zt ms ↔ ∀ (c : Nat) m, ms[c]? = some m → m ∣ sum39 t x y c k := by
  have hT := tabT_tie (pow_turn26 hM ht k).tab hx hy hxy
  constructor
  · intro e c m hm
    have h1 := pow_sum30 hM ht hx hy hxy hm k
    rw [e, List.getElem?_replicate, if_pos (List.getElem?_eq_some_iff.mp hm).1] at h1
    exact Int.dvd_of_emod_eq_zero (Option.some.inj h1).symm
  · intro h
    refine tie_ext hT.1 (rep_tie hM).1 fun c m hm => ?_
    rw [pow_sum30 hM ht hx hy hxy hm k, Int.emod_eq_zero_of_dvd (h c m hm), List.getElem?_replicate, if_pos (List.getElem?_eq_some_iff.mp hm).1]
/-- where a place that says nothing is led in so many steps -/
theorem says30 {ms hs : List Int} (hM : MsP ms) (ht : TurnP ms hs t) {x y : Nat} (hx : x < hs.length) (hy : y < hs.length) (hxy : x ≠ y) (k : Nat) :
    (itP28 ms t k (x, List.replicate hs.length (zt ms))).2[it26 t.1 k y]? = some (tabT (powT26 ms hs.length t k).2 x y) := by
  have hp : PlP ms hs.length x (List.replicate hs.length (zt ms)) := ⟨hx, by simp, fun u hu => by rw [List.eq_of_mem_replicate hu]; exact rep_tie hM, by rw [List.getElem?_replicate, if_pos hx]⟩
  have hu := pow_turn26 hM ht k
  rw [itP_pow28 hM ht (p := (x, List.replicate hs.length (zt ms))) hp, led_get hu hp (pow_lead26 hM ht k hy), if_neg (Ne.symm hxy)]
  have e : (List.replicate hs.length (zt ms)).getD y [] = zt ms := by rw [List.getD_eq_getElem?_getD, List.getElem?_replicate, if_pos hy]; rfl
  have hT := tabT_tie hu.tab hx hy hxy
  rw [e, show sumF ms (zt ms) (tabT (powT26 ms hs.length t k).2 x y) = tabT (powT26 ms hs.length t k).2 x y from ?_]
  refine tie_ext (sum_tie hM (rep_tie hM) hT).1 hT.1 fun c m em => ?_
  obtain ⟨a, ea, a1, a2⟩ := tget hT em
  rw [sum_get em (zt_get em) ea, ea, Int.zero_add, Int.emod_eq_of_lt a1 a2]
theorem home30 {ms hs : List Int} (hM : MsP ms) (ht : TurnP ms hs t) {x : Nat} (hx : x < hs.length) (k : Nat) :
    itP28 ms t k (x, List.replicate hs.length (zt ms)) = (x, List.replicate hs.length (zt ms)) ↔ it26 t.1 k x = x ∧ ∀ y < hs.length, x ≠ y → ∀ (c : Nat) m, ms[c]? = some m → m ∣ sum39 t x y c k := by
  have hp : PlP ms hs.length x (List.replicate hs.length (zt ms)) := ⟨hx, by simp, fun u hu => by rw [List.eq_of_mem_replicate hu]; exact rep_tie hM, by rw [List.getElem?_replicate, if_pos hx]⟩
  have hu := pow_turn26 hM ht k
  have hl := ht.lead.len
  have hi := lead_inj26 ht.lead
  have est : (itP28 ms t k (x, List.replicate hs.length (zt ms))).1 = it26 t.1 k x := by
    rw [itP_pow28 hM ht (p := (x, List.replicate hs.length (zt ms))) hp]
    show (powT26 ms hs.length t k).1.getD x 0 = _
    rw [List.getD_eq_getElem?_getD, pow_lead26 hM ht k hx]
    rfl
  constructor
  · intro e
    refine ⟨by rw [← est, e], fun y hy hxy => (pow_zero30 hM ht hx hy hxy k).mp ?_⟩
    have h1 := says30 hM ht hx hy hxy k
    rw [e, List.getElem?_replicate, if_pos (by have := hi.it_lt (x := y) (by omega) k; omega)] at h1
    exact (Option.some.inj h1).symm
  · rintro ⟨h1, h2⟩
    have hq := itP_pl28 hM ht (p := (x, List.replicate hs.length (zt ms))) hp k
    refine Prod.ext (by rw [est, h1]) ?_
    refine List.ext_getElem? fun c => ?_
    rcases Nat.lt_or_ge c hs.length with z | z
    · obtain ⟨y, hy, hyc⟩ := hu.lead.surj z
      rw [List.getElem?_replicate, if_pos z]
      have hyl : y < hs.length := by have := (List.getElem?_eq_some_iff.mp hyc).1; rw [hu.lead.len] at this; exact this
      by_cases hxy : x = y
      · subst hxy
        have ec : it26 t.1 k x = c := by
          have := pow_lead26 hM ht k hx
          rw [hyc] at this
          exact (Option.some.inj this).symm
        have := hq.own
        rw [est, ec] at this
        exact this
      · have ec : it26 t.1 k y = c := by
          have := pow_lead26 hM ht k hyl
          rw [hyc] at this
          exact (Option.some.inj this).symm
        have h3 := says30 hM ht hx hyl hxy k
        rw [ec, (pow_zero30 hM ht hx hyl hxy k).mpr (h2 y hyl hxy)] at h3
        exact h3
    · rw [List.getElem?_eq_none (by rw [hq.len]; exact z), List.getElem?_eq_none (by simp; exact z)]
end
section
variable {t : Turn} {o : List Nat}
structure Own30 (o : List Nat) : Prop where
  len : o.length = 12
  lt : ∀ k < 12, o.getD k 0 < 12
  inj : ∀ j < 12, ∀ k < 12, o.getD j 0 = o.getD k 0 → j = k
  all : ∀ x < 12, ∃ k < 12, o.getD k 0 = x
theorem own30 (ho : o.Perm (List.range 12)) : Own30 o := by
  have hl : o.length = 12 := by rw [ho.length_eq, List.length_range]
  have nd : o.Nodup := ho.nodup_iff.mpr List.nodup_range
  have g : ∀ k, k < 12 → o[k]? = some (o.getD k 0) := fun k hk => by rw [List.getD_eq_getElem?_getD, List.getElem?_eq_getElem (by omega)]; rfl
  refine ⟨hl, fun k hk => List.mem_range.mp (ho.mem_iff.mp (List.mem_of_getElem? (g k hk))), fun j hj k hk e => ?_, fun x hx => ?_⟩
  · exact (List.getElem?_inj (by omega) nd).mp (by rw [g j hj, g k hk, e])
  · obtain ⟨k, hk, e⟩ := List.getElem_of_mem (ho.mem_iff.mpr (List.mem_range.mpr hx))
    refine ⟨k, by omega, ?_⟩
    rw [List.getD_eq_getElem?_getD, List.getElem?_eq_getElem hk, e]
    rfl
theorem lead30 (hL : Long29 t o) :
    (∀ s < 3, ∀ i, it26 t.1 i (o.getD s 0) = o.getD ((s + i) % 3) 0) ∧ (∀ s < 4, ∀ i, it26 t.1 i (o.getD (3 + s) 0) = o.getD (3 + (s + i) % 4) 0) ∧ (∀ s < 5, ∀ i, it26 t.1 i (o.getD (7 + s) 0) = o.getD (7 + (s + i) % 5) 0) := by
  have ho := hL.perm
  have hl : o.length = 12 := (own30 ho).len
  have nd : o.Nodup := ho.nodup_iff.mpr List.nodup_range
  have po := parts29 o
  have h := chainp30 (p1 := o.take 3) (p2 := (o.drop 3).take 4) (p3 := o.drop 7) (K := List.range 12) (by rw [← po]; exact nd) (by simp) (fun x hx => by rw [← po] at hx; exact List.mem_range.mp (ho.mem_iff.mp hx))
  rw [show cyc27 (cyc27 (cyc27 (List.range 12) (o.take 3) (o.take 3).length) ((o.drop 3).take 4) ((o.drop 3).take 4).length) (o.drop 7) (o.drop 7).length = t.1 from hL.lead.symm] at h
  have l1 : (o.take 3).length = 3 := by rw [List.length_take]; omega
  have l2 : ((o.drop 3).take 4).length = 4 := by rw [List.length_take, List.length_drop]; omega
  have l3 : (o.drop 7).length = 5 := by rw [List.length_drop]; omega
  have g1 : ∀ k < 3, (o.take 3).getD k 0 = o.getD k 0 := fun k hk => by rw [List.getD_eq_getElem?_getD, List.getElem?_take_of_lt hk, ← List.getD_eq_getElem?_getD]
  have g2 : ∀ k < 4, ((o.drop 3).take 4).getD k 0 = o.getD (3 + k) 0 := fun k hk => by rw [List.getD_eq_getElem?_getD, List.getElem?_take_of_lt hk, List.getElem?_drop, ← List.getD_eq_getElem?_getD]
  have g3 : ∀ k < 5, (o.drop 7).getD k 0 = o.getD (7 + k) 0 := fun k hk => by rw [List.getD_eq_getElem?_getD, List.getElem?_drop, ← List.getD_eq_getElem?_getD]
  refine ⟨fun s hs i => ?_, fun s hs i => ?_, fun s hs i => ?_⟩
  · have := it30 h.1 (s := s) (by omega) i
    rw [l1, g1 s hs, g1 _ (Nat.mod_lt _ (by omega))] at this
    exact this
  · have := it30 h.2.1 (s := s) (by omega) i
    rw [l2, g2 s hs, g2 _ (Nat.mod_lt _ (by omega))] at this
    exact this
  · have := it30 h.2.2 (s := s) (by omega) i
    rw [l3, g3 s hs, g3 _ (Nat.mod_lt _ (by omega))] at this
    exact this
theorem ties30 (hL : Long29 t o) : ∃ a b, tieB29 a ∧ tieB29 b ∧ ∀ u < 12, ∀ v < 12, u ≠ v → tabT t.2 (o.getD u 0) (o.getD v 0) =
    if (u = 0 ∧ v = 7) ∨ (u = 7 ∧ v = 0) then b else if (u = 0 ∧ v = 3) ∨ (u = 3 ∧ v = 0) then a else [0, 0, 0] := by
  obtain ⟨a, b, ha, hb, e⟩ := hL.ties
  have O := own30 hL.perm
  refine ⟨a, b, ha, hb, fun u hu v hv huv => ?_⟩
  have eqv : ∀ i < 12, ∀ j < 12, (o.getD i 0 = o.getD j 0) = (i = j) := fun i hi j hj => propext ⟨O.inj i hi j hj, fun e => by rw [e]⟩
  have hC := const_tab (ms := ms29) tie0_29 12
  have hn : o.getD u 0 ≠ o.getD v 0 := fun e => huv (O.inj u hu v hv e)
  have h03 : o.getD 0 0 ≠ o.getD 3 0 := fun e => by have := O.inj 0 (by omega) 3 (by omega) e; omega
  have h07 : o.getD 0 0 ≠ o.getD 7 0 := fun e => by have := O.inj 0 (by omega) 7 (by omega) e; omega
  have hT1 := tab_put29 (a := o.getD 0 0) (b := o.getD 3 0) hC (tieB29_tie ha) (by have := O.lt 0 (by omega); have := O.lt 3 (by omega); omega)
  have q1 := eqv u hu 0 (by omega)
  have q2 := eqv v hv 7 (by omega)
  have q3 := eqv u hu 7 (by omega)
  have q4 := eqv v hv 0 (by omega)
  have q5 := eqv v hv 3 (by omega)
  have q6 := eqv u hu 3 (by omega)
  rw [e, tab_put30 hT1 (O.lt 0 (by omega)) (O.lt 7 (by omega)) h07 hn, tab_put30 hC (O.lt 0 (by omega)) (O.lt 3 (by omega)) h03 hn]
  simp only [q1, q2, q3, q4, q5, q6]
  have hz : tabT (constT [0, 0, 0] 12) (o.getD u 0) (o.getD v 0) = [0, 0, 0] := by
    have h1 := O.lt u hu
    have h2 := O.lt v hv
    rcases Nat.lt_or_ge (o.getD v 0) (o.getD u 0) with z | z
    · rw [tabT_gt z]; exact const_tt h1 z
    · rw [tabT_le (show ¬ o.getD v 0 < o.getD u 0 by omega)]; exact const_tt h2 (by omega)
  rw [hz]
theorem zero_getD30 (c : Nat) : ([0, 0, 0] : List Int).getD c 0 = 0 := by
  match c with
  | 0 => rfl
  | 1 => rfl
  | 2 => rfl
  | c + 3 => rfl
/-- what so many steps gather between the first stem and each other one -/
theorem sums30 (hL : Long29 t o) : ∃ a b, tieB29 a ∧ tieB29 b ∧ ∀ c k, (∀ s < 3, s ≠ 0 → sum39 t (o.getD 0 0) (o.getD s 0) c k = 0) ∧ (∀ s < 4, sum39 t (o.getD 0 0) (o.getD (3 + s) 0) c k = (cN30 4 s k : Nat) * a.getD c 0) ∧
    (∀ s < 5, sum39 t (o.getD 0 0) (o.getD (7 + s) 0) c k = (cN30 5 s k : Nat) * b.getD c 0) := by
  obtain ⟨a, b, ha, hb, hT⟩ := ties30 hL
  obtain ⟨i1, i2, i3⟩ := lead30 hL
  refine ⟨a, b, ha, hb, fun c k => ?_⟩
  have e0 : ∀ i, it26 t.1 i (o.getD 0 0) = o.getD (i % 3) 0 := fun i => by have := i1 0 (by omega) i; rwa [Nat.zero_add] at this
  induction k with
  | zero => exact ⟨fun s _ _ => rfl, fun s _ => by show (0 : Int) = ((0 : Nat) : Int) * _; simp, fun s _ => by show (0 : Int) = ((0 : Nat) : Int) * _; simp⟩
  | succ k ih =>
    obtain ⟨h1, h2, h3⟩ := ih
    have m3 := Nat.mod_lt k (show 0 < 3 by omega)
    refine ⟨fun s hs hs0 => ?_, fun s hs => ?_, fun s hs => ?_⟩
    · rw [sum39_succ, h1 s hs hs0]
      unfold tau39
      have m := Nat.mod_lt (s + k) (show 0 < 3 by omega)
      rw [e0, i1 s hs, hT _ (by omega) _ (by omega) (by omega), if_neg (by omega), if_neg (by omega), zero_getD30]
      rfl
    · rw [sum39_succ, h2 s hs]
      unfold tau39
      have m := Nat.mod_lt (s + k) (show 0 < 4 by omega)
      rw [e0, i2 s hs, hT _ (by omega) _ (by omega) (by omega), if_neg (by omega)]
      show _ = ((cN30 4 s k + if k % 3 = 0 ∧ (s + k) % 4 = 0 then 1 else 0 : Nat) : Int) * _
      by_cases e : k % 3 = 0 ∧ (s + k) % 4 = 0
      · rw [if_pos (by omega), if_pos e, Int.natCast_add, Int.add_mul]
        simp
      · rw [if_neg (by omega), if_neg e, zero_getD30]
        simp
    · rw [sum39_succ, h3 s hs]
      unfold tau39
      have m := Nat.mod_lt (s + k) (show 0 < 5 by omega)
      rw [e0, i3 s hs, hT _ (by omega) _ (by omega) (by omega)]
      show _ = ((cN30 5 s k + if k % 3 = 0 ∧ (s + k) % 5 = 0 then 1 else 0 : Nat) : Int) * _
      by_cases e : k % 3 = 0 ∧ (s + k) % 5 = 0
      · rw [if_pos (by omega), if_pos e, Int.natCast_add, Int.add_mul]
        simp
      · rw [if_neg (by omega), if_neg (by omega), if_neg e, zero_getD30]
        simp
theorem long_home30 (hL : Long29 t o) (h : Int) (k : Nat) : itP28 ms29 t k (o.getD 0 0, List.replicate 12 [0, 0, 0]) = (o.getD 0 0, List.replicate 12 [0, 0, 0]) ↔ 1800 ∣ k := by
  have hM := ms29_q.1
  have ht := hL.turn h
  have hn : (List.replicate 12 h).length = 12 := by simp
  have O := own30 hL.perm
  obtain ⟨i1, i2, i3⟩ := lead30 hL
  obtain ⟨a, b, ha, hb, hS⟩ := sums30 hL
  have key := home30 hM ht (x := o.getD 0 0) (by rw [hn]; exact O.lt 0 (by omega)) k
  rw [hn] at key
  have key : itP28 ms29 t k (o.getD 0 0, List.replicate 12 [0, 0, 0]) = (o.getD 0 0, List.replicate 12 [0, 0, 0]) ↔ it26 t.1 k (o.getD 0 0) = o.getD 0 0 ∧ ∀ y < 12, o.getD 0 0 ≠ y → ∀ (c : Nat) m, ms29[c]? = some m → m ∣ sum39 t (o.getD 0 0) y c k := key
  rw [key, ← all30 k]
  have m3 := Nat.mod_lt k (show 0 < 3 by omega)
  have e0 : it26 t.1 k (o.getD 0 0) = o.getD 0 0 ↔ 3 ∣ k := by
    rw [i1 0 (by omega) k, Nat.zero_add]
    constructor
    · intro e
      have := O.inj _ (by omega) 0 (by omega) e
      omega
    · intro e
      rw [show k % 3 = 0 by omega]
  rw [e0]
  refine and_congr Iff.rfl ⟨fun H => ⟨fun s hs => ?_, fun s hs => ?_⟩, fun H y hy hxy c m hm => ?_⟩
  · refine (tieB_dvd30 ha _).mp fun c m hm => ?_
    have := H (o.getD (3 + s) 0) (O.lt _ (by omega)) (fun e => by have := O.inj 0 (by omega) (3 + s) (by omega) e; omega) c m hm
    rwa [(hS c k).2.1 s hs] at this
  · refine (tieB_dvd30 hb _).mp fun c m hm => ?_
    have := H (o.getD (7 + s) 0) (O.lt _ (by omega)) (fun e => by have := O.inj 0 (by omega) (7 + s) (by omega) e; omega) c m hm
    rwa [(hS c k).2.2 s hs] at this
  · obtain ⟨j, hj, rfl⟩ := O.all y hy
    have hj0 : j ≠ 0 := fun e => hxy (by rw [e])
    rcases Nat.lt_or_ge j 3 with z | z
    · rw [(hS c k).1 j z hj0]
      exact Int.dvd_zero _
    · rcases Nat.lt_or_ge j 7 with w | w
      · obtain ⟨s, rfl⟩ : ∃ s, j = 3 + s := ⟨j - 3, by omega⟩
        rw [(hS c k).2.1 s (by omega)]
        exact (tieB_dvd30 ha _).mpr (H.1 s (by omega)) c m hm
      · obtain ⟨s, rfl⟩ : ∃ s, j = 7 + s := ⟨j - 7, by omega⟩
        rw [(hS c k).2.2 s (by omega)]
        exact (tieB_dvd30 hb _).mpr (H.2 s (by omega)) c m hm
theorem long_per30 (hL : Long29 t o) (h : Int) : perP28 ms29 12 t (o.getD 0 0, List.replicate 12 [0, 0, 0]) = 1799 := by
  have hM := ms29_q.1
  have ht := hL.turn h
  have hn : (List.replicate 12 h).length = 12 := by simp
  have O := own30 hL.perm
  have hp : PlP ms29 (List.replicate 12 h).length (o.getD 0 0) (List.replicate 12 [0, 0, 0]) := by rw [hn]; exact zero_pl42 (O.lt 0 (by omega))
  have h1 := itP_dvd28 (p := (o.getD 0 0, List.replicate 12 [0, 0, 0])) hM ht hp (k := 1800)
  have h2 := perP_spec28 (p := (o.getD 0 0, List.replicate 12 [0, 0, 0])) hM ht hp
  rw [hn] at h1 h2
  have d1 := h1.mp ((long_home30 hL h 1800).mpr (Nat.dvd_refl _))
  have d2 := (long_home30 hL h _).mp h2.2.1
  have := Nat.dvd_antisymm d1 d2
  omega
/-- a place that says something of the stem behind is not on that ring -/
theorem long_off30 (hL : Long29 t o) (h : Int) {S : List (List Int)} (hS : S[o.getD 1 0]? = some [0, 0, 1]) (k : Nat) : itP28 ms29 t k (o.getD 0 0, List.replicate 12 [0, 0, 0]) ≠ (o.getD 0 0, S) := fun e => by
  have hM := ms29_q.1
  have ht := hL.turn h
  have hn : (List.replicate 12 h).length = 12 := by simp
  have O := own30 hL.perm
  obtain ⟨i1, i2, i3⟩ := lead30 hL
  obtain ⟨a, b, ha, hb, hSm⟩ := sums30 hL
  have hx : o.getD 0 0 < (List.replicate 12 h).length := by rw [hn]; exact O.lt 0 (by omega)
  have hp : PlP ms29 (List.replicate 12 h).length (o.getD 0 0) (List.replicate 12 [0, 0, 0]) := by rw [hn]; exact zero_pl42 (O.lt 0 (by omega))
  have est : (itP28 ms29 t k (o.getD 0 0, List.replicate 12 [0, 0, 0])).1 = it26 t.1 k (o.getD 0 0) := by
    rw [itP_pow28 hM ht (p := (o.getD 0 0, List.replicate 12 [0, 0, 0])) hp]
    show (powT26 ms29 (List.replicate 12 h).length t k).1.getD (o.getD 0 0) 0 = _
    rw [List.getD_eq_getElem?_getD, pow_lead26 hM ht k hx]
    rfl
  rw [e, i1 0 (by omega) k, Nat.zero_add] at est
  have m3 := Nat.mod_lt k (show 0 < 3 by omega)
  have hk3 := O.inj 0 (by omega) _ (by omega) est
  have hne : o.getD 0 0 ≠ o.getD 1 0 := fun e => by have := O.inj 0 (by omega) 1 (by omega) e; omega
  have h1 := says30 hM ht (x := o.getD 0 0) (y := o.getD 1 0) hx (by rw [hn]; exact O.lt 1 (by omega)) hne k
  rw [hn, show List.replicate 12 (zt ms29) = List.replicate 12 [0, 0, 0] from rfl, e, i1 1 (by omega) k, show (1 + k) % 3 = 1 by omega] at h1
  have h1 : S[o.getD 1 0]? = some (tabT (powT26 ms29 12 t k).2 (o.getD 0 0) (o.getD 1 0)) := h1
  have hz := (pow_zero30 hM ht (x := o.getD 0 0) (y := o.getD 1 0) hx (by rw [hn]; exact O.lt 1 (by omega)) hne k).mpr fun c m hm => by
    rw [(hSm c k).1 1 (by omega) (by omega)]
    exact Int.dvd_zero _
  rw [hn] at hz
  rw [h1, hz] at hS
  exact absurd (Option.some.inj hS) (by decide)
end
def off30 (o1 : Nat) : List (List Int) := (List.range 12).map fun y => if y = o1 then [0, 0, 1] else [0, 0, 0]
theorem off_pl30 {o0 o1 : Nat} (h0 : o0 < 12) (h : o0 ≠ o1) : PlP ms29 12 o0 (off30 o1) := by
  refine ⟨h0, by simp [off30], fun t ht => ?_, ?_⟩
  · obtain ⟨y, _, rfl⟩ := List.mem_map.mp ht
    by_cases e : y = o1
    · rw [if_pos e]
      refine ⟨rfl, fun c m z hm hz => ?_⟩
      match c, hm, hz with
      | 0, hm, hz => cases hm; cases hz; decide
      | 1, hm, hz => cases hm; cases hz; decide
      | 2, hm, hz => cases hm; cases hz; decide
      | c + 3, hm, _ => simp at hm
    · rw [if_neg e]; exact tie0_29
  · unfold off30
    rw [List.getElem?_map, List.getElem?_range h0, Option.map_some, if_neg h]
    rfl
theorem off_at30 {o1 : Nat} (h : o1 < 12) : (off30 o1)[o1]? = some [0, 0, 1] := by
  unfold off30
  rw [List.getElem?_map, List.getElem?_range h, Option.map_some, if_pos rfl]

def preRt41 (m : Nat) (ds : List D) : Prop := m < 2000000 ∧ ∃ (ms hs : List Int) (t : Turn) (p : Spot), ds = [.tup (dints ms), .tup (dints hs), dturn t, dspot p] ∧ MsQ ms ∧ HuP hs ∧ TurnP ms hs t ∧ PlP ms hs.length p.1 p.2
def psiRt41 (ds : List D) (m m' : Nat) (d : D) : Prop := m' ≤ m + 400 ∧ d = .bl true
theorem log_big28 {n : Int} (h : n.natAbs < 2 ^ 1001) : n.natAbs.log2 < 1002 := by
  rcases Nat.eq_zero_or_pos n.natAbs with z | z
  · rw [z]; decide
  · have := (Nat.log2_lt (by omega)).mpr h
    omega
theorem shows_big28 {n : Int} (h : n.natAbs < 2 ^ 1001) : Shows (.int n) := by
  have hl := log_big28 h
  refine ⟨rfl, ?_, ?_, ?_⟩
  · show decide (n.natAbs.log2 < 1920) = true
    exact decide_eq_true (by omega)
  · simp [D.py, PyData.depth]
  · have q := PyData.shown_le 1100 (by decide) (D.int n).py (by
      show decide ((PyData.shown (.int n)).length ≤ 1100) = true
      refine decide_eq_true ?_
      have e := int_text_length_le (a := n) (k := 1002) (by decide) hl
      show (Str.ofString (toString n)).length ≤ 1100
      rw [PySem.ofString_length]
      omega)
    have w2 : (D.int n).py.weight ≤ 1002 := by
      show PyData.weight (.int n) ≤ 1002
      rw [PyData.weight]
      split <;> omega
    rw [sizeLine_eq]
    omega

local macro_rules | `(tactic| walk_at "ev1") => `(tactic| first
  | with_reducible refine Wl.v_rep0 (by assumption) ?_
  | ((with_reducible refine And.intro Wl.pStem ?_); (rw [Wl.fStem_is]))
  | ((with_reducible refine And.intro (Wl.pNou (by assumption)) ?_); (rw [Wl.fNou_is]))
  | ((with_reducible refine And.intro (Wl.pTT (by assumption) (by assumption) (by assumption)) ?_); (first | rw [Wl.fSum_is] | rw [Wl.fLess_is])))
local macro_rules | `(tactic| walk_at "yes") => `(tactic| first | rw [if_pos (decide_eq_true (by assumption))] | rw [if_pos (decide_eq_true (by omega))])
local macro_rules | `(tactic| walk_at "no") => `(tactic| first | rw [if_neg (by rw [decide_eq_false (by assumption)]; exact Bool.false_ne_true)] | rw [if_neg (by rw [decide_eq_false (by omega)]; exact Bool.false_ne_true)])
local macro_rules | `(tactic| walk_at "xv") => `(tactic| (repeat (first
  | with_reducible refine Wt.e_isX (by with_unfolding_all rfl) (by first | exact L2.ClsV.own _ | exact L2.ClsV.ty _) (We.Ex.toExF (by assumption)) (by assumption) ?_
  | with_reducible refine Wt.e_isXT (by with_unfolding_all rfl) (by with_unfolding_all rfl) (by decide) (by repeat (first | exact L2.Paired.nil | refine L2.Paired.cons (by first | exact L2.ClsV.own _ | exact L2.ClsV.ty _) ?_)) (We.Ex.toExF (by assumption)) (by assumption) ?_
  | with_reducible refine Wt.e_xfH (by with_unfolding_all rfl) (We.Ex.toExF (by assumption)) (We.Ex.no (by assumption)) ?_
  | walk_at "ev1")))
local macro_rules | `(tactic| walk_at "ev1") => `(tactic| first
  | with_reducible refine Wl.e_ofD (by with_unfolding_all rfl) ?_
  | with_reducible refine Wl.e_ofOwn (by with_unfolding_all rfl) (by with_unfolding_all rfl) ?_ ?_ ?_ ?_
  | fail)
section
variable {P : Program} {w : World} {K : PySem.W.Frag}
variable {mg : Str → Option Value} {base : Heap} {cFrame cNoFrame cTurnError : Addr}
theorem ok_is_whole {f : Addr} {fd : FuncData} (F : Fun K "is_whole" "is_whole" s_is_whole f fd)
    (m_bool : mg "bool" = none)
    (m_int : mg "int" = none)
    (m_isinstance : mg "isinstance" = none) :
    FnOk P w K mg base CX0 1 f fd ["thing"] (SpP K preWhole fWhole) := by
  refine F.ok sc_is_whole (fun vs H Q E h => ?len) (fun cdv A outer s H vs Q E hr h => ⟨_, (pss_one (ps_ret (pe_and (pe_callB (show CallR _ _ (rIsi K) from call_isi) (by rfl) m_isinstance (by decide +kernel) (pa_cons (pv 0) (pa_cons (pe_bltn (v := .ty "int") (by rfl) m_int (by decide +kernel) rfl) pa_nil))) (pe_one (pe_not (pe_callB (show CallR _ _ (rIsi K) from call_isi) (by rfl) m_isinstance (by decide +kernel) (pa_cons (pv 0) (pa_cons (pe_bltn (v := .ty "bool") (by rfl) m_bool (by decide +kernel) rfl) pa_nil)))))))), ?r⟩)
  case len =>
    obtain ⟨B, ds, _, is, ⟨d, rfl, _⟩, _⟩ := h
    exact is.length
  case r =>
    refine body_P h fun ds hp hl => ?_
    obtain ⟨d, rfl, ho⟩ := hp
    refine s_ret (e_andV (e_isi kit_int (e_var rfl ⟨ho, _, rfl, ?_⟩)))
    cases d <;> first | (cases ho; done) | (exact rfl) | skip
    all_goals
      refine e_notV (e_isi kit_bool (e_var rfl ⟨rfl, _, rfl, ?_⟩))
      rfl

theorem ok_product {f : Addr} {fd : FuncData} (F : Fun K "product" "product" s_product f fd)
 :
    FnOk P w K mg base CX0 1 f fd ["numbers"] (SpP K preProd8 fProd8) := by
  refine F.ok sc_product (fun vs H Q E h => ?len) (fun cdv A outer s H vs Q E hr h => ⟨_, (pss_cons (ps_set (i := 1) sc_product.nd rfl (by first | exact Or.inl rfl | exact Or.inr rfl) pe_int)
      (pss_cons (ps_for PassesOwn.never rfl (pi_seq (pv 0)) (pg_name (i := 2) sc_product.nd rfl (by first | exact Or.inl rfl | exact Or.inr rfl)) (pss_one (ps_aug (i := 1) sc_product.nd rfl (by first | exact Or.inl rfl | exact Or.inr rfl) (pv 2) iop_mul)))
      (pss_one (ps_ret (pv 1))))), ?r⟩)
  case len =>
    obtain ⟨B, ds, _, is, ⟨ns, rfl | rfl, _⟩, _⟩ := h
    · exact is.length
    · exact is.length
  case r =>
    refine body_P h fun ds hp hl => ?_
    obtain ⟨ns, rfl | rfl, hn⟩ := hp
    ·
      refine s_seq (s_asg (e_int ?_))
      refine s_seq (s_forS (e_var rfl ⟨_, .inl rfl, fun i _ ρ' => ∃ x, ρ' = [some (.dat (.lst (dints ns))), some (.dat (.int (D.prod (dints (ns.take i))))), x], ⟨_, rfl⟩, ?_, ?_⟩))
      · intro i n ρ' d hd hI
        obtain ⟨x, rfl⟩ := hI
        have hi : i < ns.length := by
          have := (List.getElem?_eq_some_iff.mp hd).1
          simpa [dints] using this
        have ed : d = .int ns[i] := by
          rw [dints, List.getElem?_map, List.getElem?_eq_getElem hi] at hd
          exact (Option.some.inj hd).symm
        subst ed
        have hb := hn ns[i] (List.getElem_mem hi)
        refine s_aug rfl (e_var rfl (v_I (.inr ⟨by omega, by omega⟩) ?_))
        refine ⟨some (.dat (.int ns[i])), ?_⟩
        rw [prod_take hi]
        rfl
      · intro n ρ' hI
        obtain ⟨x, rfl⟩ := hI
        have e : ns.take (dints ns).length = ns := by
          rw [dints, List.length_map, List.take_length]
        rw [e]
        exact s_ret (e_var rfl rfl)
    ·
      refine s_seq (s_asg (e_int ?_))
      refine s_seq (s_forS (e_var rfl ⟨_, .inr rfl, fun i _ ρ' => ∃ x, ρ' = [some (.dat (.tup (dints ns))), some (.dat (.int (D.prod (dints (ns.take i))))), x], ⟨_, rfl⟩, ?_, ?_⟩))
      · intro i n ρ' d hd hI
        obtain ⟨x, rfl⟩ := hI
        have hi : i < ns.length := by
          have := (List.getElem?_eq_some_iff.mp hd).1
          simpa [dints] using this
        have ed : d = .int ns[i] := by
          rw [dints, List.getElem?_map, List.getElem?_eq_getElem hi] at hd
          exact (Option.some.inj hd).symm
        subst ed
        have hb := hn ns[i] (List.getElem_mem hi)
        refine s_aug rfl (e_var rfl (v_I (.inr ⟨by omega, by omega⟩) ?_))
        refine ⟨some (.dat (.int ns[i])), ?_⟩
        rw [prod_take hi]
        rfl
      · intro n ρ' hI
        obtain ⟨x, rfl⟩ := hI
        have e : ns.take (dints ns).length = ns := by
          rw [dints, List.length_map, List.take_length]
        rw [e]
        exact s_ret (e_var rfl rfl)

theorem ok_nought {f : Addr} {fd : FuncData} (F : Fun K "nought" "nought" s_nought f fd)
    (m_len : mg "len" = none) :
    FnOk P w K mg base CX0 1 f fd ["measure"] (SpP K preMs1 fNou) := by
  refine F.ok sc_nought (fun vs H Q E h => ?len) (fun cdv A outer s H vs Q E hr h => ⟨_, (pss_one (ps_ret (pe_op (show OpR _ _ (rRepA K) from op_repA) (pe_tupC (pa_cons pe_int pa_nil)) (pe_callB (show CallR _ _ (rLenQ K) from call_len_seq) (by rfl) m_len (by decide +kernel) (pa_cons (pv 0) pa_nil))))), ?r⟩)
  case len =>
    obtain ⟨B, ds, _, is, ⟨ms, rfl, _⟩, _⟩ := h
    exact is.length
  case r =>
    refine body_P h fun ds hp hl => ?_
    obtain ⟨ms, rfl, hM⟩ := hp
    rw [fNou_is]
    walk_at "body"
    walk_at "ev"
    rfl

theorem ok_tie_sum {f : Addr} {fd : FuncData} (F : Fun K "tie_sum" "tie_sum" s_tie_sum f fd)
    (m_tuple : mg "tuple" = none)
    (m_zip : mg "zip" = none) :
    FnOk P w K mg base CX0 1 f fd ["measure", "one", "other"] (SpP K preTT fSum) := by
  refine F.ok sc_tie_sum (fun vs H Q E h => ?len) (fun cdv A outer s H vs Q E hr h => ⟨_, (pss_one (ps_ret (pe_callTy (show CallR _ _ (rTupC K) from call_tupC) (by rfl) m_tuple (by decide +kernel) (pa_cons (pe_lc (own := [("left", 3), ("right", 4), ("limit", 5)]) (g := gTup K 3 (gCons (gName 3) (gCons (gName 4) (gCons (gName 5) gNil)))) (tt := tYes) rfl sc_tie_sum.nd (pi_zip3 (by rfl) m_zip (pa_cons (pv 1) (pa_cons (pv 2) (pa_cons (pv 0) pa_nil)))) (blkOk_by (own := [("left", 3), ("right", 4), ("limit", 5)]) (N := ["measure", "one", "other", "left", "right", "limit"]) (sc := defScope s_tie_sum) (by decide +kernel)) (fun _ _ _ _ _ => (pg_tup rfl (pgs_cons (pg_name (i := 3) sc_tie_sum.nd rfl (by first | exact Or.inl rfl | exact Or.inr rfl)) (pgs_cons (pg_name (i := 4) sc_tie_sum.nd rfl (by first | exact Or.inl rfl | exact Or.inr rfl)) (pgs_cons (pg_name (i := 5) sc_tie_sum.nd rfl (by first | exact Or.inl rfl | exact Or.inr rfl)) pgs_nil))))) (fun _ _ _ _ _ => pts_nil) (fun _ _ _ _ _ => (pe_op op_mod (pe_op op_add (pv 3) (pv 4)) (pv 5)))) pa_nil)))), ?r⟩)
  case len =>
    obtain ⟨B, ds, _, is, ⟨ms, a, b, rfl, _⟩, _⟩ := h
    exact is.length
  case r =>
    refine body_P h fun ds hp hl => ?_
    obtain ⟨ms, a, b, rfl, hM, ha, hb⟩ := hp
    have h3 := hM.2.1
    have h4 := ha.1
    walk_at "body"
    refine s_ret (e_cb (a_cons (e_lcZ3i (f := fun x y m => (x + y) % m) rfl rfl rfl (by decide) (by decide) (by decide) ?_)))
    walk_at "ev"
    refine ⟨a, b, ms, rfl, by omega, ?_, ?_⟩
    · intro c x y z e1 e2 e3
      have hz : 0 < z := by have := hM.2.2 z (List.mem_of_getElem? e3); omega
      walk_at "ev"
      rfl
    · walk_at "ev"
      show D.tup _ = D.tup (dints (sumF _ _ _))
      rw [uints_dints, uints_dints, uints_dints, sumF]

theorem ok_table_tie {f : Addr} {fd : FuncData} (F : Fun K "table_tie" "table_tie" s_table_tie f fd)
    (m_max : mg "max" = none)
    (m_min : mg "min" = none) :
    FnOk P w K mg base CX0 1 f fd ["table", "one", "other"] (SpP K preTab fTab) := by
  refine F.ok sc_table_tie (fun vs H Q E h => ?len) (fun cdv A outer s H vs Q E hr h => ⟨_, (pss_one (ps_ret (pe_ix (show IxR _ (rIxT K) from ix_tup) (pe_ix (show IxR _ (rIxT K) from ix_tup) (pv 0) (pe_callB (call_max2 rfl) (by rfl) m_max (by decide +kernel) (pa_cons (pv 1) (pa_cons (pv 2) pa_nil))) (fun _ _ => rfl)) (pe_callB (call_min2 rfl) (by rfl) m_min (by decide +kernel) (pa_cons (pv 1) (pa_cons (pv 2) pa_nil))) (fun _ _ => rfl)))), ?r⟩)
  case len =>
    obtain ⟨B, ds, _, is, ⟨t, i, j, r, d, rfl, _⟩, _⟩ := h
    exact is.length
  case r =>
    refine body_P h fun ds hp hl => ?_
    obtain ⟨t, i, j, r, d, rfl, hi, hj, h1, h2⟩ := hp
    have e : tabAt t i j = d := by
      unfold tabAt
      rw [h1]
      show (dsub r _).getD _ = d
      rw [h2]; rfl
    cases t with
    | tup xs =>
      cases r with
      | tup ys =>
        walk_at "body"
        walk_at "ev"
        refine v_ixT (d := .tup ys) (by split <;> omega) h1 ?_
        walk_at "ev"
        refine v_ixT (d := d) (by split <;> omega) h2 ?_
        exact e.symm
      | _ => cases h2
    | _ => cases h1

theorem ok_Frame_stem_count {f : Addr} {fd : FuncData} (F : Fun K "stem_count" "Frame.stem_count" s_Frame_stem_count f fd)
    (k_Frame : Own2 K cFrame "measure" "hues")
    (m_len : mg "len" = none) :
    FnOk P w K mg base CX0 1 f fd ["self"] (SpP K (preStem cFrame) fStem) := by
  refine F.ok sc_Frame_stem_count (fun vs H Q E h => ?len) (fun cdv A outer s H vs Q E hr h => ⟨_, (pss_one (ps_ret (pe_callB (show CallR _ _ (rLenQ K) from call_len_seq) (by rfl) m_len (by decide +kernel) (pa_cons (pe_fldK (K := K) rfl (pv 0) rfl) pa_nil)))), ?r⟩)
  case len =>
    obtain ⟨B, ds, _, is, ⟨ms, hs, rfl⟩, _⟩ := h
    exact is.length
  case r =>
    refine body_P h fun ds hp hl => ?_
    obtain ⟨ms, hs, rfl⟩ := hp
    walk_at "body"
    walk_at "ev"
    rfl

theorem ok__law_hand {f : Addr} {fd : FuncData} (F : Fun K "_law_hand" "_law_hand" s__law_hand f fd)
    (m_abs : mg "abs" = none)
    (m_int : mg "int" = none)
    (m_len : mg "len" = none) :
    FnOk P w K mg base CX0 1 f fd ["_law_script", "_law_k"] (SpR K preHand fun _ d => isHand d) := by
  refine F.ok sc__law_hand (fun vs H Q E h => ?len) (fun cdv A outer s H vs Q E hr h => ⟨_, (pss_cons (ps_set (i := 2) sc__law_hand.nd rfl (by first | exact Or.inl rfl | exact Or.inr rfl) (pe_ifExp (pt_cmpR op_lt (pv 1) (pe_callB (show CallR _ _ (rLenQ K) from call_len_seq) (by rfl) m_len (by decide +kernel) (pa_cons (pv 0) pa_nil)) (nomark _)) (pe_ix (show IxR _ (rIxL K) from ix_list) (pv 0) (pv 1) (fun _ _ => rfl)) (pe_op op_add (pe_op op_mul pe_int (pv 1)) pe_int)))
      (pss_cons (ps_set (i := 3) sc__law_hand.nd rfl (by first | exact Or.inl rfl | exact Or.inr rfl) (pe_op op_mulW (pe_op op_mod (pe_callB call_abs (by rfl) m_abs (by decide +kernel) (pa_cons (pv 2) pa_nil)) (pe_op op_powW (pe_op op_pow pe_int pe_int) pe_int)) (pe_callTy call_int1 (by rfl) m_int (by decide +kernel) (pa_cons (pe_cmpR op_ge (pe_callB call_abs (by rfl) m_abs (by decide +kernel) (pa_cons (pv 2) pa_nil)) (pe_op op_pow pe_int pe_int) (nomark _)) pa_nil))))
      (pss_one (ps_ret (pe_lst (pa_cons (pv 3) (pa_cons (pe_op op_mod (pe_op op_add (pe_op op_add (pe_op op_mul (pe_op op_mod (pv 2) pe_int) pe_int) (pe_op op_mul pe_int (pv 1))) pe_int) pe_int) (pa_cons pe_int pa_nil)))))))), ?r⟩)
  case len =>
    obtain ⟨B, ds, _, is, ⟨ns, k, rfl, _⟩, _⟩ := h
    exact is.length
  case r =>
    refine body_R h fun ds hp hl => ?_
    obtain ⟨ns, k, rfl, h0, h1⟩ := hp
    walk_at "body"
    walk_at "ev"
    by_cases hk : k < ns.length
    rw [if_pos (decide_eq_true hk)]
    walk_at "ev"
    refine v_ixS h0 (List.getElem?_eq_getElem (by omega)) ?_
    generalize ns[k.toNat] = c
    rotate_left
    rw [if_neg (by rw [decide_eq_false hk]; exact Bool.false_ne_true)]
    walk_at "ev"
    generalize 7 * k + 3 = c
    all_goals
      walk_at "ev"
      rw [show (((10 : Int) ^ (60 : Int).toNat) ^ (10 : Int).toNat) = 10 ^ 600 by decide +kernel]
      refine v_I ?_ ?_
      · exact hand_mul _ _
      · walk_at "ev"
        exact hand_is _ _ _ _

theorem ok__law_take {f : Addr} {fd : FuncData} (F : Fun K "_law_take" "_law_take" s__law_take f fd)
 :
    FnOk P w K mg base CX0 1 f fd ["_law_hand_here", "_law_many"] (SpH K preTake psiTake) := by
  refine F.ok sc__law_take (fun vs H Q E h => ?len) (fun cdv A outer s H vs Q E hr h => ⟨_, (pss_cons (ps_if (pt_cmpR op_gt (pe_ix (show IxR _ (rIxL K) from ix_list) (pv 0) pe_int (fun _ _ => rfl)) pe_int (nomark _)) (pss_cons (ps_set (i := 4) sc__law_take.nd rfl (by first | exact Or.inl rfl | exact Or.inr rfl) (pe_op op_mod (pe_ix (show IxR _ (rIxL K) from ix_list) (pv 0) pe_int (fun _ _ => rfl)) (pv 1)))
      (pss_cons (ps_asg (pe_op op_fdivW (pe_ix (show IxR _ (rIxL K) from ix_list) (pv 0) pe_int (fun _ _ => rfl)) (pv 1)) (pg_sub (pv 0) pe_int set_list))
      (pss_one (ps_ret (pv 4))))) pss_nil)
      (pss_cons (ps_asg (pe_op op_add (pe_ix (show IxR _ (rIxL K) from ix_list) (pv 0) pe_int (fun _ _ => rfl)) pe_int) (pg_sub (pv 0) pe_int set_list))
      (pss_cons (ps_set (i := 2) sc__law_take.nd rfl (by first | exact Or.inl rfl | exact Or.inr rfl) (pe_ix (show IxR _ (rIxL K) from ix_list) (pe_lst (pa_cons pe_int (pa_cons pe_int (pa_cons pe_int (pa_cons pe_int (pa_cons pe_int (pa_cons pe_int (pa_cons pe_int pa_nil)))))))) (pe_op op_mod (pe_ix (show IxR _ (rIxL K) from ix_list) (pv 0) pe_int (fun _ _ => rfl)) pe_int) (fun _ _ => rfl)))
      (pss_cons (ps_set (i := 3) sc__law_take.nd rfl (by first | exact Or.inl rfl | exact Or.inr rfl) (pe_op op_mod (pe_op op_pow (pe_op op_add (pe_op op_add (pe_ix (show IxR _ (rIxL K) from ix_list) (pv 0) pe_int (fun _ _ => rfl)) (pe_op op_mul (pe_op op_mul pe_int (pe_ix (show IxR _ (rIxL K) from ix_list) (pv 0) pe_int (fun _ _ => rfl))) (pe_ix (show IxR _ (rIxL K) from ix_list) (pv 0) pe_int (fun _ _ => rfl)))) pe_int) pe_int) (pv 2)))
      (pss_one (ps_ret (pe_op op_mod (pe_op op_fdiv (pe_op op_mod (pe_op op_mul (pv 3) (pe_op op_add (pe_op op_mod (pv 3) pe_int) (pe_op op_mul pe_int (pe_ix (show IxR _ (rIxL K) from ix_list) (pv 0) pe_int (fun _ _ => rfl))))) pe_int) pe_int) (pv 1)))))))), ?r⟩)
  case len =>
    obtain ⟨l, ws, B, ds, m, rfl, _, _, _, is, ⟨_, n, rfl, _⟩, _⟩ := h
    show ws.length + 1 = 2
    rw [is.length]; rfl
  case r =>
    refine body_H h fun a ds m hp hl => ?_
    obtain ⟨hm, n, rfl, hn, hn2⟩ := hp
    have hmod : ∀ x : Int, 0 ≤ x % n ∧ x % n < n := fun x =>
      ⟨Int.emod_nonneg x (by omega), Int.emod_lt_of_pos x hn⟩
    walk_at "body"
    walk_at "ev"
    rename_i g g1 g2
    cases decide (0 < g) with
    | true =>
      show SvC _ _ _ _ _ _ _
      walk_at "ev"
      refine s_hand0 rfl ?_
      walk_at "ev"
      rename_i g' g1' g2' g3 g4 g5
      refine v_I ?_ ?_
      · exact wide_div (b := 1100) hn (takeB_nat hn hn2) (by decide) (by decide)
      · have d1 := Int.ediv_nonneg g4 (Int.le_of_lt hn)
        have d2 := Int.ediv_le_self n g4
        refine ⟨_, rfl, d1, by omega, ?_⟩
        exact s_ret (e_var rfl ⟨by omega, n, _, rfl, rfl, hmod g'⟩)
    | false =>
      refine s_next ?_
      walk_at "ev"
      refine s_hand2 rfl ?_
      walk_at "ev"
      rename_i c c1 c2
      refine ⟨_, m + 1, rfl, by omega, by omega, ?_⟩
      walk_at "ev"
      rename_i c3 d1 d2
      obtain ⟨p, hp1, hp2, hp3⟩ := primes_at (Int.emod_nonneg c3 (by decide)) (Int.emod_lt_of_pos c3 (by decide))
      refine v_ixL (Int.emod_nonneg c3 (by decide)) hp1 ?_
      walk_at "ev"
      rename_i sd s1 s2 c4 x1 x2 c5 y1 y2
      refine v_I (.inr ⟨by omega, by omega⟩) ?_
      walk_at "ev"
      refine v_I ?_ ?_
      · exact ⟨by decide, by decide, take_base s1 s2 x1 (by omega) y1 (by omega)⟩
      walk_at "ev"
      have b1 := Int.emod_nonneg ((sd + 7919 * c4 * c5 + 31) ^ (3 : Int).toNat) (show p ≠ 0 by omega)
      have b2 := Int.emod_lt_of_pos ((sd + 7919 * c4 * c5 + 31) ^ (3 : Int).toNat) hp2
      generalize (sd + 7919 * c4 * c5 + 31) ^ (3 : Int).toNat % p = dr at b1 b2 ⊢
      walk_at "ev"
      refine v_I (.inl ⟨by omega, by omega⟩) ?_
      walk_at "ev"
      exact ⟨Nat.le_refl _, n, _, rfl, rfl, hmod _⟩

theorem ok__law_sum {f : Addr} {fd : FuncData} (F : Fun K "_law_sum" "_law_sum" s__law_sum f fd)
    (m_tuple : mg "tuple" = none)
    (m_zip : mg "zip" = none) :
    FnOk P w K mg base CX0 1 f fd ["_law_scale_here", "_law_here", "_law_there"] (SpP K preTT fSum) := by
  refine F.ok sc__law_sum (fun vs H Q E h => ?len) (fun cdv A outer s H vs Q E hr h => ⟨_, (pss_one (ps_ret (pe_callTy (show CallR _ _ (rTupC K) from call_tupC) (by rfl) m_tuple (by decide +kernel) (pa_cons (pe_lc (own := [("_law_mine", 3), ("_law_its", 4), ("_law_size", 5)]) (g := gTup K 3 (gCons (gName 3) (gCons (gName 4) (gCons (gName 5) gNil)))) (tt := tYes) rfl sc__law_sum.nd (pi_zip3 (by rfl) m_zip (pa_cons (pv 1) (pa_cons (pv 2) (pa_cons (pv 0) pa_nil)))) (blkOk_by (own := [("_law_mine", 3), ("_law_its", 4), ("_law_size", 5)]) (N := ["_law_scale_here", "_law_here", "_law_there", "_law_mine", "_law_its", "_law_size"]) (sc := defScope s__law_sum) (by decide +kernel)) (fun _ _ _ _ _ => (pg_tup rfl (pgs_cons (pg_name (i := 3) sc__law_sum.nd rfl (by first | exact Or.inl rfl | exact Or.inr rfl)) (pgs_cons (pg_name (i := 4) sc__law_sum.nd rfl (by first | exact Or.inl rfl | exact Or.inr rfl)) (pgs_cons (pg_name (i := 5) sc__law_sum.nd rfl (by first | exact Or.inl rfl | exact Or.inr rfl)) pgs_nil))))) (fun _ _ _ _ _ => pts_nil) (fun _ _ _ _ _ => (pe_op op_mod (pe_op op_add (pv 3) (pv 4)) (pv 5)))) pa_nil)))), ?r⟩)
  case len =>
    obtain ⟨B, ds, _, is, ⟨ms, a, b, rfl, _⟩, _⟩ := h
    exact is.length
  case r =>
    refine body_P h fun ds hp hl => ?_
    obtain ⟨ms, a, b, rfl, hM, ha, hb⟩ := hp
    have h3 := hM.2.1
    have h4 := ha.1
    rw [fSum_is]
    walk_at "body"
    refine s_ret (e_cb (a_cons (e_lcZ3i (f := fun x y m => (x + y) % m) rfl rfl rfl (by decide) (by decide) (by decide) ?_)))
    walk_at "ev"
    refine ⟨a, b, ms, rfl, by omega, ?_, ?_⟩
    · intro c x y z e1 e2 e3
      have hz : 0 < z := by have := hM.2.2 z (List.mem_of_getElem? e3); omega
      walk_at "ev"
      rfl
    · walk_at "ev"
      rfl

theorem ok__law_at {f : Addr} {fd : FuncData} (F : Fun K "_law_at" "_law_at" s__law_at f fd)
 :
    FnOk P w K mg base CX0 1 f fd ["_law_grid_here", "_law_at_here", "_law_to"] (SpP K preAt fAt) := by
  refine F.ok sc__law_at (fun vs H Q E h => ?len) (fun cdv A outer s H vs Q E hr h => ⟨_, (pss_one (ps_ret (pe_ifExp (pt_cmpR op_lt (pv 2) (pv 1) (nomark _)) (pe_ix (show IxR _ (rIxT K) from ix_tup) (pe_ix (show IxR _ (rIxT K) from ix_tup) (pv 0) (pv 1) (fun _ _ => rfl)) (pv 2) (fun _ _ => rfl)) (pe_ix (show IxR _ (rIxT K) from ix_tup) (pe_ix (show IxR _ (rIxT K) from ix_tup) (pv 0) (pv 2) (fun _ _ => rfl)) (pv 1) (fun _ _ => rfl))))), ?r⟩)
  case len =>
    obtain ⟨B, ds, _, is, ⟨ms, n, T, i, j, rfl, _⟩, _⟩ := h
    exact is.length
  case r =>
    refine body_P h fun ds hp hl => ?_
    obtain ⟨ms, n, T, i, j, rfl, hT, hi, hj, hij⟩ := hp
    rw [fAt_is, tabT]
    walk_at "body"
    walk_at "ev"
    by_cases e : (j : Int) < i
    · obtain ⟨r, t, e1, e2, h3⟩ := hT.at hi (j := j) (by omega)
      have e1' : (T.map fun r => D.tup (r.map fun t => D.tup (dints t)))[i]? = some (D.tup (r.map fun t => D.tup (dints t))) := by
        rw [List.getElem?_map, e1]; rfl
      have e2' := dsays_get e2
      walk_at "yes"
      rw [if_pos (by omega), tt_of e1 e2]
      walk_at "ev"
      rfl
    · obtain ⟨r, t, e1, e2, h3⟩ := hT.at hj (j := i) (by omega)
      have e1' : (T.map fun r => D.tup (r.map fun t => D.tup (dints t)))[j]? = some (D.tup (r.map fun t => D.tup (dints t))) := by
        rw [List.getElem?_map, e1]; rfl
      have e2' := dsays_get e2
      walk_at "no"
      rw [if_neg (by omega), tt_of e1 e2]
      walk_at "ev"
      rfl

theorem ok__law_still {f : Addr} {fd : FuncData} (F : Fun K "_law_still" "_law_still" s__law_still f fd)
    (m_len : mg "len" = none)
    (m_range : mg "range" = none)
    (m_tuple : mg "tuple" = none) :
    FnOk P w K mg base CX0 1 f fd ["_law_scale_here", "_law_size"] (SpP K preLs fLs) := by
  refine F.ok sc__law_still (fun vs H Q E h => ?len) (fun cdv A outer s H vs Q E hr h => ⟨_, (pss_one (ps_ret (pe_tupC (pa_cons (pe_tupRgC rfl (by rfl) m_tuple (prg_1 (by rfl) m_range (pv 1))) (pa_cons (pe_callTy (show CallR _ _ (rTupC K) from call_tupC) (by rfl) m_tuple (by decide +kernel) (pa_cons (pe_lc (own := [("_law_at_here", 2)]) (g := gName 2) (tt := tYes) rfl sc__law_still.nd (pi_range1 rfl m_range (pa_cons (pv 1) pa_nil)) (blkOk_by (own := [("_law_at_here", 2)]) (N := ["_law_scale_here", "_law_size", "_law_at_here"]) (sc := defScope s__law_still) (by decide +kernel)) (fun _ _ _ _ _ => (pg_name (i := 2) sc__law_still.nd rfl (by first | exact Or.inl rfl | exact Or.inr rfl))) (fun _ _ _ _ _ => pts_nil) (fun _ _ _ _ _ => (pe_op (show OpR _ _ (rRepA K) from op_repA) (pe_tupC (pa_cons (pe_op (show OpR _ _ (rRepA K) from op_repA) (pe_tupC (pa_cons pe_int pa_nil)) (pe_callB (show CallR _ _ (rLenQ K) from call_len_seq) (by rfl) m_len (by decide +kernel) (pa_cons (pv 0) pa_nil))) pa_nil)) (pv 2)))) pa_nil)) pa_nil))))), ?r⟩)
  case len =>
    obtain ⟨B, ds, _, is, ⟨ms, n, rfl, _⟩, _⟩ := h
    exact is.length
  case r =>
    refine body_P h fun ds hp hl => ?_
    obtain ⟨ms, n, rfl, hM, hn⟩ := hp
    rw [fLs_is]
    walk_at "body"
    walk_at "ev"
    refine ⟨by omega, ?_⟩
    walk_at "ev"
    refine e_lcRf rfl ?_
    walk_at "ev"
    refine ⟨n, fun i => .tup (List.replicate i (.tup (dints (zt ms)))), rfl, by omega, fun i hi => ?_, ?_⟩
    · walk_at "ev"
      refine v_repT (by omega) (by omega) (by simp) ?_
      rw [List.flatten_replicate_singleton, Int.toNat_natCast]
      exact ⟨rfl, rfl⟩
    · walk_at "ev"
      rw [← const_dtab]
      rfl

theorem ok_is_within {f : Addr} {fd : FuncData} (F : Fun K "is_within" "is_within" s_is_within f fd)
    {f_is_whole : Addr} {fd_is_whole : FuncData} (F_is_whole : Fun K "is_whole" "is_whole" s_is_whole f_is_whole fd_is_whole)
    (G_is_whole : FnOk P w K mg base CX0 1 f_is_whole fd_is_whole ["thing"] (SpP K preWhole fWhole))
    (g_is_whole : mg "is_whole" = some (.ref f_is_whole)) :
    FnOk P w K mg base CX0 2 f fd ["thing", "least", "most"] (SpP K preWithin fWithin) := by
  refine F.ok sc_is_within (fun vs H Q E h => ?len) (fun cdv A outer s H vs Q E hr h => ⟨_, (pss_one (ps_ret (pe_and (pe_call G_is_whole (hr.mono (by decide)) (by rfl) g_is_whole F_is_whole.kp (bi_is_whole F_is_whole) .nil pass0 (pa_cons (pv 0) pa_nil)) (pe_one (pe_chain op_le op_le (pv 1) (pv 0) (pv 2)))))), ?r⟩)
  case len =>
    obtain ⟨B, ds, _, is, ⟨d, a, b, rfl, _⟩, _⟩ := h
    exact is.length
  case r =>
    refine body_P h fun ds hp hl => ?_
    obtain ⟨d, a, b, rfl, ho⟩ := hp
    refine s_ret (e_andV (e_callP (a_cons (e_var rfl (a_nil ⟨⟨d, rfl, ho⟩, _, rfl, ?_⟩)))))
    clear hl
    cases d <;> first | (cases ho; done) | (exact rfl) | skip
    rename_i i
    refine e_chain (e_var rfl (e_var rfl ⟨_, _, rfl, rfl, ?_⟩))
    show if decide (a ≤ i) = true then _ else _
    cases e : decide (a ≤ i) with
    | false => show D.bl false = .bl (decide (a ≤ i) && decide (i ≤ b)); rw [e]; rfl
    | true =>
      refine e_var rfl ⟨_, rfl, ?_⟩
      show D.bl (decide (i ≤ b)) = .bl (decide (a ≤ i) && decide (i ≤ b))
      rw [e]; rfl

theorem ok_lead_place {f : Addr} {fd : FuncData} (F : Fun K "lead_place" "lead_place" s_lead_place f fd)
    {f_nought : Addr} {fd_nought : FuncData} (F_nought : Fun K "nought" "nought" s_nought f_nought fd_nought)
    (G_nought : FnOk P w K mg base CX0 1 f_nought fd_nought ["measure"] (SpP K preMs1 fNou))
    (g_nought : mg "nought" = some (.ref f_nought))
    {f_tie_sum : Addr} {fd_tie_sum : FuncData} (F_tie_sum : Fun K "tie_sum" "tie_sum" s_tie_sum f_tie_sum fd_tie_sum)
    (G_tie_sum : FnOk P w K mg base CX0 1 f_tie_sum fd_tie_sum ["measure", "one", "other"] (SpP K preTT fSum))
    (g_tie_sum : mg "tie_sum" = some (.ref f_tie_sum))
    {f_table_tie : Addr} {fd_table_tie : FuncData} (F_table_tie : Fun K "table_tie" "table_tie" s_table_tie f_table_tie fd_table_tie)
    (G_table_tie : FnOk P w K mg base CX0 1 f_table_tie fd_table_tie ["table", "one", "other"] (SpP K preTab fTab))
    (g_table_tie : mg "table_tie" = some (.ref f_table_tie))
    {f_Frame_stem_count : Addr} {fd_Frame_stem_count : FuncData} (F_Frame_stem_count : Fun K "stem_count" "Frame.stem_count" s_Frame_stem_count f_Frame_stem_count fd_Frame_stem_count)
    (G_Frame_stem_count : FnOk P w K mg base CX0 1 f_Frame_stem_count fd_Frame_stem_count ["self"] (SpP K (preStem cFrame) fStem))
    (k_Frame : Own2 K cFrame "measure" "hues")
    (e_Frame_stem_count : Meth K cFrame "stem_count" f_Frame_stem_count)
    (m_enumerate : mg "enumerate" = none)
    (m_tuple : mg "tuple" = none) :
    FnOk P w K mg base CX0 2 f fd ["frame", "turning", "place"] (SpP K (preLp cFrame) fLp) := by
  refine F.ok sc_lead_place (fun vs H Q E h => ?len) (fun cdv A outer s H vs Q E hr h => ⟨_, (pss_cons (ps_asg (pv 1) (pg_tup rfl (pgs_cons (pg_name (i := 4) sc_lead_place.nd rfl (by first | exact Or.inl rfl | exact Or.inr rfl)) (pgs_cons (pg_name (i := 5) sc_lead_place.nd rfl (by first | exact Or.inl rfl | exact Or.inr rfl)) pgs_nil))))
      (pss_cons (ps_asg (pv 2) (pg_tup rfl (pgs_cons (pg_name (i := 6) sc_lead_place.nd rfl (by first | exact Or.inl rfl | exact Or.inr rfl)) (pgs_cons (pg_name (i := 7) sc_lead_place.nd rfl (by first | exact Or.inl rfl | exact Or.inr rfl)) pgs_nil))))
      (pss_cons (ps_set (i := 3) sc_lead_place.nd rfl (by first | exact Or.inl rfl | exact Or.inr rfl) (pe_op op_rep (pe_lst (pa_cons (pe_call G_nought (hr.mono (by decide)) (by rfl) g_nought F_nought.kp (bi_nought F_nought) .nil pass0 (pa_cons (pe_fldK (K := K) rfl (pv 0) rfl) pa_nil)) pa_nil)) (pe_meth0 (pv 0) k_Frame.cls e_Frame_stem_count G_Frame_stem_count (hr.mono (by decide)) (bi_Frame_stem_count F_Frame_stem_count) .nil pass0)))
      (pss_cons (ps_for PassesOwn.never rfl (pi_enT (by rfl) m_enumerate (pa_cons (pv 7) pa_nil)) (pg_tup rfl (pgs_cons (pg_name (i := 8) sc_lead_place.nd rfl (by first | exact Or.inl rfl | exact Or.inr rfl)) (pgs_cons (pg_name (i := 9) sc_lead_place.nd rfl (by first | exact Or.inl rfl | exact Or.inr rfl)) pgs_nil))) (pss_one (ps_if (pt_cmpR op_ne (pv 8) (pv 6) (nomark _)) (pss_one (ps_asg (pe_call G_tie_sum (hr.mono (by decide)) (by rfl) g_tie_sum F_tie_sum.kp (bi_tie_sum F_tie_sum) .nil pass0 (pa_cons (pe_fldK (K := K) rfl (pv 0) rfl) (pa_cons (pv 9) (pa_cons (pe_call G_table_tie (hr.mono (by decide)) (by rfl) g_table_tie F_table_tie.kp (bi_table_tie F_table_tie) .nil pass0 (pa_cons (pv 5) (pa_cons (pv 6) (pa_cons (pv 8) pa_nil)))) pa_nil)))) (pg_sub (pv 3) (pe_ix (show IxR _ (rIxT K) from ix_tup) (pv 4) (pv 8) (fun _ _ => rfl)) set_list))) pss_nil)))
      (pss_one (ps_ret (pe_tupC (pa_cons (pe_ix (show IxR _ (rIxT K) from ix_tup) (pv 4) (pv 6) (fun _ _ => rfl)) (pa_cons (pe_callTy (show CallR _ _ (rTupC K) from call_tupC) (by rfl) m_tuple (by decide +kernel) (pa_cons (pv 3) pa_nil)) pa_nil))))))))), ?r⟩)
  case len =>
    obtain ⟨B, ds, _, is, ⟨ms, hs, t, p, rfl, _⟩, _⟩ := h
    exact is.length
  case r =>
    refine body_P h fun ds hp hl => ?_
    obtain ⟨ms, hs, t, ⟨a, S⟩, rfl, hM, hn, ht, hP⟩ := hp
    have hl2 := ht.lead.len
    have hl3 := hP.len
    simp only at hP hl3
    obtain ⟨ca, hca, _⟩ := ht.lead.at hP.lt
    have hca' := dnats_get hca
    rw [fLp_is]
    walk_at "body"
    walk_at "ev"
    refine ⟨by omega, by simp, ?_⟩
    walk_at "ro"
    refine s_seq (s_forEw (i := 8) (j := 9) ?_)
    walk_at "ev"
    refine ⟨0, [3, 8, 9], fun i xs => ∃ x y, xs = [some (.own ((ledF ms t.1 t.2 a S i).map fun t => .tup (dints t))), x, y], [_, _, _], rfl, rfl, ⟨none, none, ?_⟩, fun i n d xs hd hn2 hx hR => ?_, fun n xs hn2 hx hR => ?_⟩
    · rw [List.flatten_replicate_singleton, ledF]
      show _ = [some (Sl.own ((List.replicate t.1.length (zt ms)).map _)), _, _]
      rw [List.map_replicate, hl2]
    · obtain ⟨x, z, rfl⟩ := hR
      walk_at "ro"
      have hi : i < hs.length := by
        have := (List.getElem?_eq_some_iff.mp hd).1
        rw [List.length_map] at this
        omega
      obtain ⟨c, hc, hc2⟩ := ht.lead.at hi
      have hc' := dnats_get hc
      obtain ⟨y, ey⟩ := says_get (c := i) hl3 hi
      rw [dsays_get ey] at hd
      cases hd
      have hy := hP.tie y (List.mem_of_getElem? ey)
      walk_at "ev"
      by_cases e : (i : Int) = a
      · rw [decide_eq_true e]
        walk_at "ev"
        refine ⟨[_, _, _], rfl, rfl, some (.dat (.int i)), some (.dat (.tup (dints y))), ?_⟩
        rw [ledF_succ, if_pos (by omega)]
      · rw [decide_eq_false e]
        have hT := tabT_tie ht.tab hP.lt hi (by omega)
        walk_at "ev"
        refine s_setOwn (i := 3) rfl ?_
        walk_at "ev"
        refine ⟨pTab ht.tab hP.lt hi (by omega), ?_⟩
        rw [fTab_is ht.tab hP.lt hi (by omega)]
        walk_at "ev"
        refine ⟨by rw [List.length_map, ledF_len, hl2]; exact hc2, by omega, [_, _, _], rfl, rfl, some (.dat (.int i)), some (.dat (.tup (dints y))), ?_⟩
        rw [ledF_succ, if_neg (by omega), natD_of hc, getD_of ey, List.map_set]
    · obtain ⟨x, y, rfl⟩ := hR
      walk_at "ro"
      refine s_freeze (i := 3) rfl ?_
      walk_at "ro"
      walk_at "ev"
      rw [ledP, natD_of hca, List.length_map]

theorem ok__law_of {f : Addr} {fd : FuncData} (F : Fun K "_law_of" "_law_of" s__law_of f fd)
    {f__law_take : Addr} {fd__law_take : FuncData} (F__law_take : Fun K "_law_take" "_law_take" s__law_take f__law_take fd__law_take)
    (G__law_take : FnOk P w K mg base CX0 1 f__law_take fd__law_take ["_law_hand_here", "_law_many"] (SpH K preTake psiTake))
    (g__law_take : mg "_law_take" = some (.ref f__law_take))
    (m_len : mg "len" = none) :
    FnOk P w K mg base CX0 2 f fd ["_law_hand_here", "_law_some"] (SpOfV K) := by
  refine F.ok sc__law_of (fun vs H Q E h => ?len) (fun cdv A outer s H vs Q E hr h => ⟨_, (pss_one (ps_ret (pe_ix (show IxR _ (rIx K) from ix_seq) (pv 1) (pe_call G__law_take (hr.mono (by decide)) (by rfl) g__law_take F__law_take.kp (bi__law_take F__law_take) .nil pass0 (pa_cons (pv 0) (pa_cons (pe_callB (show CallR _ _ (rLenQ K) from call_len_seq) (by rfl) m_len (by decide +kernel) (pa_cons (pv 1) pa_nil)) pa_nil))) (fun _ _ => rfl)))), ?r⟩)
  case len =>
    obtain ⟨l, a, xs, B, m, rfl, _⟩ := h
    rfl
  case r =>
    obtain ⟨l, a, xs, B, m, rfl, sb, hh, hB, hsq, hal, hm, hne, hl, k⟩ := h
    refine ⟨_, rfl, _, rfl, _, rfl, a, xs, rfl, hsq, ?_⟩
    have hpos : 0 < xs.length := List.length_pos_iff.mpr hne
    refine ⟨l, [.int xs.length], B, [.int xs.length], m, rfl, sb, hh, hB, .cons (.int _) .nil, ⟨hm, _, rfl, by omega, takeB_of (by omega)⟩, fun v d m' B2 H2 h2 s1 s2 s3 s4 hψ iv => ?_⟩
    obtain ⟨h1, n, r, e1, rfl, r1, r2⟩ := hψ
    cases e1
    cases iv
    have hr : r.toNat < xs.length := by omega
    have e : atI xs r = some (xs[r.toNat]) := by
      have := L2.atI_nat (List.getElem?_eq_getElem hr)
      rwa [Int.toNat_of_nonneg r1] at this
    rcases sq_keep hal s3 hsq with q | q
    · exact .inl ⟨a, xs, r, _, rfl, rfl, q, e, k _ m' B2 H2 (List.getElem_mem hr) h1 h2 s1 s2 s3 s4⟩
    · exact .inr (.inl ⟨a, xs, r, _, rfl, rfl, q, e, k _ m' B2 H2 (List.getElem_mem hr) h1 h2 s1 s2 s3 s4⟩)

theorem ok__law_mixed {f : Addr} {fd : FuncData} (F : Fun K "_law_mixed" "_law_mixed" s__law_mixed f fd)
    {f__law_take : Addr} {fd__law_take : FuncData} (F__law_take : Fun K "_law_take" "_law_take" s__law_take f__law_take fd__law_take)
    (G__law_take : FnOk P w K mg base CX0 1 f__law_take fd__law_take ["_law_hand_here", "_law_many"] (SpH K preTake psiTake))
    (g__law_take : mg "_law_take" = some (.ref f__law_take))
    (m_len : mg "len" = none)
    (m_list : mg "list" = none) :
    FnOk P w K mg base CX0 2 f fd ["_law_hand_here", "_law_some"] (SpF K preMix psiMix) := by
  refine F.ok sc__law_mixed (fun vs H Q E h => ?len) (fun cdv A outer s H vs Q E hr h => ⟨_, (pss_cons (ps_par (i := 2) (j := 3) rfl sc__law_mixed.nd rfl rfl (by decide) rfl rfl (pa_cons (pe_callTy (show CallR _ _ (rListQ K) from call_list_of) (by rfl) m_list (by decide +kernel) (pa_cons (pv 1) pa_nil)) (pa_cons (pe_lst pa_nil) pa_nil)) (by rfl))
      (pss_cons (ps_while PassesOwn.never (pt_cmpR (show OpR _ _ (rNeD K) from op_neD hr.units) (pv 2) (pe_lst pa_nil) (nomark _)) (pss_one (ps_expr (pe_bm PySem.F.plainAttrs_list PySem.F.slot_list_append PySem.F.type_list_append mt_append (pv 3) (pa_cons (pe_bm PySem.F.plainAttrs_list PySem.F.slot_list_pop PySem.F.type_list_pop mt_popAt (pv 2) (pa_cons (pe_call G__law_take (hr.mono (by decide)) (by rfl) g__law_take F__law_take.kp (bi__law_take F__law_take) .nil pass0 (pa_cons (pv 0) (pa_cons (pe_callB (show CallR _ _ (rLenQ K) from call_len_seq) (by rfl) m_len (by decide +kernel) (pa_cons (pv 2) pa_nil)) pa_nil))) pa_nil)) pa_nil)))))
      (pss_one (ps_ret (pv 3))))), ?r⟩)
  case len =>
    obtain ⟨a, ws, B, ds, m, rfl, _, _, _, is, ⟨_, c, xs, rfl, _⟩, _⟩ := h
    show ws.length + 1 = 2
    rw [is.length]; rfl
  case r =>
    refine body_F2 (j := 3) h fun ad ds m hp hl => ?_
    obtain ⟨hm, c, xs, rfl, hc, hx, hN⟩ := hp
    walk_at "body"
    refine s_seq (s_parOwn2 (by decide) ?_)
    walk_at "ev"
    refine ⟨xs, hc, ?_⟩
    walk_at "ro"
    refine s_while (q0 := xs.length) (I := fun q n ρ' => ∃ left found : List D, ρ' = [some .hand, some (.dat c), some (.own left), some (.own found)] ∧ (found ++ left).Perm xs ∧ left.length = q ∧ n + q ≤ m + xs.length) ⟨xs, [], rfl, .refl _, rfl, by omega⟩ ?_
    intro q n ρ' hI
    obtain ⟨left, found, rfl, hP, hq, hn⟩ := hI
    have hle : found.length + left.length = xs.length := by
      have := hP.length_eq
      simpa using this
    obtain ⟨wd, hwd, hN2⟩ : ∃ wd, wd ≤ 101000 ∧ Num 21 wd (.lst left) := by
      by_cases hs : xs.length ≤ 30
      · exact ⟨3001 * left.length, by omega, Num.lst (k := 20) (w := 3000) fun x hx => (hN x (hP.mem_iff.mp (List.mem_append_right _ hx))).elim (fun z => z.up (by omega) (by omega)) (·.2)⟩
      · exact ⟨501 * left.length, by omega, Num.lst (k := 20) (w := 500) fun x hx => (hN x (hP.mem_iff.mp (List.mem_append_right _ hx))).elim id fun z => absurd z.1 hs⟩
    refine t_ownNe (i := 2) rfl hN2 (by omega) ?_
    cases left with
    | nil =>
      rw [List.isEmpty_nil, Bool.not_true, if_neg Bool.false_ne_true]
      refine ⟨found, rfl, by simp at hq; omega, c, xs, rfl, hc, ?_⟩
      rw [List.append_nil] at hP
      exact hP
    | cons y r =>
      rw [List.isEmpty_cons, Bool.not_false, if_pos rfl]
      simp only [List.length_cons] at hq hle
      refine s_popApp (i := 2) (j := 3) rfl rfl (by decide) (by omega) ?_
      refine e_callH rfl (a_cons (e_lenOwn (i := 2) rfl ?_))
      walk_at "ev"
      refine g_take (by omega) (by simp) (by simp; omega) fun m2 k q2 hk => ?_
      simp only [List.length_cons] at hk
      obtain ⟨z, hz⟩ : ∃ z, (y :: r)[k]? = some z := ⟨(y :: r)[k]'(by simp; omega), List.getElem?_eq_getElem _⟩
      refine ⟨_, rfl, k, rfl, by omega, z, hz, q - 1, by omega, _, _, rfl, ?_, ?_, by omega⟩
      · refine List.Perm.trans ?_ hP
        rw [List.append_assoc]
        exact List.Perm.append_left _ (erase_perm hz)
      · have := (erase_perm hz).length_eq
        simp only [List.length_cons] at this
        omega

theorem ok__law_knot {f : Addr} {fd : FuncData} (F : Fun K "_law_knot" "_law_knot" s__law_knot f fd)
    {f__law_take : Addr} {fd__law_take : FuncData} (F__law_take : Fun K "_law_take" "_law_take" s__law_take f__law_take fd__law_take)
    (G__law_take : FnOk P w K mg base CX0 1 f__law_take fd__law_take ["_law_hand_here", "_law_many"] (SpH K preTake psiTake))
    (g__law_take : mg "_law_take" = some (.ref f__law_take))
    (m_tuple : mg "tuple" = none) :
    FnOk P w K mg base CX0 2 f fd ["_law_hand_here", "_law_scale_here"] (SpH K preKn psiKn) := by
  refine F.ok sc__law_knot (fun vs H Q E h => ?len) (fun cdv A outer s H vs Q E hr h => ⟨_, (pss_one (ps_ret (pe_callTy (show CallR _ _ (rTupC K) from call_tupC) (by rfl) m_tuple (by decide +kernel) (pa_cons (pe_lc (own := [("_law_size", 2)]) (g := gName 2) (tt := tYes) rfl sc__law_knot.nd (pi_tup (pv 1)) (blkOk_by (own := [("_law_size", 2)]) (N := ["_law_hand_here", "_law_scale_here", "_law_size"]) (sc := defScope s__law_knot) (by decide +kernel)) (fun _ _ _ _ _ => (pg_name (i := 2) sc__law_knot.nd rfl (by first | exact Or.inl rfl | exact Or.inr rfl))) (fun _ _ _ _ _ => pts_nil) (fun _ _ _ _ _ => (pe_call G__law_take (hr.mono (by decide)) (by rfl) g__law_take F__law_take.kp (bi__law_take F__law_take) .nil pass0 (pa_cons (pv 0) (pa_cons (pv 2) pa_nil))))) pa_nil)))), ?r⟩)
  case len =>
    obtain ⟨l, ws, B, ds, m, rfl, _, _, _, is, ⟨_, ms, rfl, _⟩, _⟩ := h
    show ws.length + 1 = 2
    rw [is.length]; rfl
  case r =>
    refine body_H h fun a ds m hp hl => ?_
    obtain ⟨hm, ms, rfl, hM⟩ := hp
    have h3 := hM.2.1
    walk_at "body"
    refine s_ret (e_cb (a_cons (e_lcT rfl (e_var rfl ⟨_, rfl, by rw [dints_length]; omega, fun i n acc => n ≤ m + i ∧ ∃ t : List Int, acc = dints t ∧ t.length = i ∧ ∀ (c : Nat) (z x : Int), ms[c]? = some z → t[c]? = some x → 0 ≤ x ∧ x < z, ⟨by omega, [], rfl, rfl, fun c z x _ e => by simp at e⟩, ?_, ?_⟩))))
    · intro i n acc d hd hI hal
      obtain ⟨hn, t, rfl, ht, hb⟩ := hI
      obtain ⟨z, ez, rfl⟩ := dints_get hd
      have hz := hM.2.2 z (List.mem_of_getElem? ez)
      have hi : i < ms.length := (List.getElem?_eq_some_iff.mp ez).1
      walk_at "ev"
      refine ⟨⟨by omega, z, rfl, by omega, takeB_of (by omega)⟩, fun m2 d2 q => ?_⟩
      obtain ⟨q1, n', r, e, rfl, q2, q3⟩ := q
      cases e
      refine ⟨by omega, t ++ [r], by rw [dints_snoc], by simp [ht], fun c z' x e1 e2 => ?_⟩
      by_cases hc : c < t.length
      · rw [List.getElem?_append_left hc] at e2
        exact hb c z' x e1 e2
      · have hc2 : c = t.length := by
          have := (List.getElem?_eq_some_iff.mp e2).1
          simp at this
          omega
        subst hc2
        rw [List.getElem?_append_right (Nat.le_refl _)] at e2
        simp at e2
        subst e2
        rw [ht, ez] at e1
        cases e1
        exact ⟨q2, q3⟩
    · intro n acc _ hI
      obtain ⟨hn, t, rfl, ht, hb⟩ := hI
      rw [dints_length] at hn ht
      walk_at "ev"
      exact ⟨by omega, ms, t, rfl, ⟨ht, hb⟩, rfl⟩

theorem ok__law_led {f : Addr} {fd : FuncData} (F : Fun K "_law_led" "_law_led" s__law_led f fd)
    {f__law_sum : Addr} {fd__law_sum : FuncData} (F__law_sum : Fun K "_law_sum" "_law_sum" s__law_sum f__law_sum fd__law_sum)
    (G__law_sum : FnOk P w K mg base CX0 1 f__law_sum fd__law_sum ["_law_scale_here", "_law_here", "_law_there"] (SpP K preTT fSum))
    (g__law_sum : mg "_law_sum" = some (.ref f__law_sum))
    {f__law_at : Addr} {fd__law_at : FuncData} (F__law_at : Fun K "_law_at" "_law_at" s__law_at f__law_at fd__law_at)
    (G__law_at : FnOk P w K mg base CX0 1 f__law_at fd__law_at ["_law_grid_here", "_law_at_here", "_law_to"] (SpP K preAt fAt))
    (g__law_at : mg "_law_at" = some (.ref f__law_at))
    (m_len : mg "len" = none)
    (m_range : mg "range" = none)
    (m_tuple : mg "tuple" = none) :
    FnOk P w K mg base CX0 2 f fd ["_law_scale_here", "_law_turn", "_law_spot_here"] (SpP K preLe fLe) := by
  refine F.ok sc__law_led (fun vs H Q E h => ?len) (fun cdv A outer s H vs Q E hr h => ⟨_, (pss_cons (ps_asg (pv 2) (pg_tup rfl (pgs_cons (pg_name (i := 5) sc__law_led.nd rfl (by first | exact Or.inl rfl | exact Or.inr rfl)) (pgs_cons (pg_name (i := 6) sc__law_led.nd rfl (by first | exact Or.inl rfl | exact Or.inr rfl)) pgs_nil))))
      (pss_cons (ps_set (i := 3) sc__law_led.nd rfl (by first | exact Or.inl rfl | exact Or.inr rfl) (pe_op op_rep (pe_lst (pa_cons (pe_op (show OpR _ _ (rRepA K) from op_repA) (pe_tupC (pa_cons pe_int pa_nil)) (pe_callB (show CallR _ _ (rLenQ K) from call_len_seq) (by rfl) m_len (by decide +kernel) (pa_cons (pv 0) pa_nil))) pa_nil)) (pe_callB (show CallR _ _ (rLenQ K) from call_len_seq) (by rfl) m_len (by decide +kernel) (pa_cons (pv 6) pa_nil))))
      (pss_cons (ps_for PassesOwn.never rfl (pi_range1 rfl m_range (pa_cons (pe_callB (show CallR _ _ (rLenQ K) from call_len_seq) (by rfl) m_len (by decide +kernel) (pa_cons (pv 6) pa_nil)) pa_nil)) (pg_name (i := 4) sc__law_led.nd rfl (by first | exact Or.inl rfl | exact Or.inr rfl)) (pss_one (ps_if (pt_cmpR op_ne (pv 4) (pv 5) (nomark _)) (pss_one (ps_asg (pe_call G__law_sum (hr.mono (by decide)) (by rfl) g__law_sum F__law_sum.kp (bi__law_sum F__law_sum) .nil pass0 (pa_cons (pv 0) (pa_cons (pe_ix (show IxR _ (rIxT K) from ix_tup) (pv 6) (pv 4) (fun _ _ => rfl)) (pa_cons (pe_call G__law_at (hr.mono (by decide)) (by rfl) g__law_at F__law_at.kp (bi__law_at F__law_at) .nil pass0 (pa_cons (pe_ix (show IxR _ (rIxT K) from ix_tup) (pv 1) pe_int (fun _ _ => rfl)) (pa_cons (pv 5) (pa_cons (pv 4) pa_nil)))) pa_nil)))) (pg_sub (pv 3) (pe_ix (show IxR _ (rIxT K) from ix_tup) (pe_ix (show IxR _ (rIxT K) from ix_tup) (pv 1) pe_int (fun _ _ => rfl)) (pv 4) (fun _ _ => rfl)) set_list))) pss_nil)))
      (pss_one (ps_ret (pe_tupC (pa_cons (pe_ix (show IxR _ (rIxT K) from ix_tup) (pe_ix (show IxR _ (rIxT K) from ix_tup) (pv 1) pe_int (fun _ _ => rfl)) (pv 5) (fun _ _ => rfl)) (pa_cons (pe_callTy (show CallR _ _ (rTupC K) from call_tupC) (by rfl) m_tuple (by decide +kernel) (pa_cons (pv 3) pa_nil)) pa_nil)))))))), ?r⟩)
  case len =>
    obtain ⟨B, ds, _, is, ⟨ms, hs, t, p, rfl, _⟩, _⟩ := h
    exact is.length
  case r =>
    refine body_P h fun ds hp hl => ?_
    obtain ⟨ms, hs, t, ⟨a, S⟩, rfl, hM, hn, ht, hP⟩ := hp
    have hl2 := ht.lead.len
    have hl3 := hP.len
    simp only at hP hl3
    obtain ⟨ca, hca, _⟩ := ht.lead.at hP.lt
    have hca' := dnats_get hca
    rw [fLe_is]
    walk_at "body"
    walk_at "ev"
    rw [List.length_map]
    refine ⟨by omega, by simp, ?_⟩
    walk_at "ro"
    refine s_seq (s_forRw ?_)
    walk_at "ev"
    rw [List.length_map]
    refine ⟨S.length, 0, [3, 4], fun i xs => ∃ x, xs = [some (.own ((ledF ms t.1 t.2 a S i).map fun t => .tup (dints t))), x], [_, _], rfl, by omega, rfl, rfl, ⟨none, ?_⟩, fun i n xs hi hn2 hx hR => ?_, fun n xs hn2 hx hR => ?_⟩
    · rw [List.flatten_replicate_singleton, ledF]
      show _ = [some (Sl.own ((List.replicate t.1.length (zt ms)).map _)), _]
      rw [List.map_replicate, hl2, hl3]
    · obtain ⟨x, rfl⟩ := hR
      walk_at "ro"
      obtain ⟨c, hc, hc2⟩ := ht.lead.at (b := i) (by omega)
      have hc' := dnats_get hc
      obtain ⟨y, ey⟩ := says_get (c := i) hl3 (by omega)
      have ey' := dsays_get ey
      have hy := hP.tie y (List.mem_of_getElem? ey)
      walk_at "ev"
      by_cases e : (i : Int) = a
      · rw [decide_eq_true e]
        walk_at "ev"
        refine ⟨[_, _], rfl, rfl, some (.dat (.int i)), ?_⟩
        rw [ledF_succ, if_pos (by omega)]
      · rw [decide_eq_false e]
        have hT := tabT_tie ht.tab hP.lt (j := i) (by omega) (by omega)
        walk_at "ev"
        refine s_setOwn (i := 3) rfl ?_
        walk_at "ev"
        refine ⟨⟨ms, _, t.2, a, i, rfl, ht.tab, hP.lt, by omega, by omega⟩, ?_⟩
        rw [fAt_is]
        walk_at "ev"
        refine ⟨by rw [List.length_map, ledF_len, hl2]; exact hc2, by omega, [_, _], rfl, rfl, some (.dat (.int i)), ?_⟩
        rw [ledF_succ, if_neg (by omega), natD_of hc, getD_of ey, List.map_set]
    · obtain ⟨x, rfl⟩ := hR
      walk_at "ro"
      refine s_freeze (i := 3) rfl ?_
      walk_at "ro"
      walk_at "ev"
      rw [ledP, natD_of hca]

theorem ok_is_measure {f : Addr} {fd : FuncData} (F : Fun K "is_measure" "is_measure" s_is_measure f fd)
    {f_is_within : Addr} {fd_is_within : FuncData} (F_is_within : Fun K "is_within" "is_within" s_is_within f_is_within fd_is_within)
    (G_is_within : FnOk P w K mg base CX0 2 f_is_within fd_is_within ["thing", "least", "most"] (SpP K preWithin fWithin))
    (g_is_within : mg "is_within" = some (.ref f_is_within))
    {f_product : Addr} {fd_product : FuncData} (F_product : Fun K "product" "product" s_product f_product fd_product)
    (G_product : FnOk P w K mg base CX0 1 f_product fd_product ["numbers"] (SpP K preProd8 fProd8))
    (g_product : mg "product" = some (.ref f_product))
    {t_LEAST_NUMBER : Tok} (c_LEAST_NUMBER : mg "LEAST_NUMBER" = some (.int 2 t_LEAST_NUMBER))
    {t_MOST_NUMBER : Tok} (c_MOST_NUMBER : mg "MOST_NUMBER" = some (.int 5 t_MOST_NUMBER))
    {t_MOST_NUMBERS : Tok} (c_MOST_NUMBERS : mg "MOST_NUMBERS" = some (.int 3 t_MOST_NUMBERS))
    {t_MOST_TIES : Tok} (c_MOST_TIES : mg "MOST_TIES" = some (.int 30 t_MOST_TIES))
    (m_all : mg "all" = none)
    (m_isinstance : mg "isinstance" = none)
    (m_len : mg "len" = none)
    (m_tuple : mg "tuple" = none) :
    FnOk P w K mg base CX0 3 f fd ["thing"] (SpP K preMeas fMeas) := by
  refine F.ok sc_is_measure (fun vs H Q E h => ?len) (fun cdv A outer s H vs Q E hr h => ⟨_, (pss_cons (ps_if (PW.pt (pw_or (pt_not (pt_val (pe_callB (show CallR _ _ (rIsi K) from call_isi) (by rfl) m_isinstance (by decide +kernel) (pa_cons (pv 0) (pa_cons (pe_bltn (v := .ty "tuple") (by rfl) m_tuple (by decide +kernel) rfl) pa_nil))))) (pw_or1 (pt_not (pt_val (pe_call G_is_within (hr.mono (by decide)) (by rfl) g_is_within F_is_within.kp (bi_is_within F_is_within) .nil pass0 (pa_cons (pe_callB (show CallR _ _ (rLenQ K) from call_len_seq) (by rfl) m_len (by decide +kernel) (pa_cons (pv 0) pa_nil)) (pa_cons pe_int (pa_cons (pe_glob (v := .int 3) (by rfl) c_MOST_NUMBERS ⟨_, rfl⟩) pa_nil))))))))) (pss_one (ps_ret pe_bl)) pss_nil)
      (pss_cons (ps_if (pt_not (pt_val (pe_callB (show CallR _ _ (rAll K) from cr_all rfl) (by rfl) m_all (by decide +kernel) (pa_cons (pe_lc (own := [("number", 1)]) (g := gName 1) (tt := tYes) rfl sc_is_measure.nd (pi_tup (pv 0)) (blkOk_by (own := [("number", 1)]) (N := ["thing", "number"]) (sc := defScope s_is_measure) (by decide +kernel)) (fun _ _ _ _ _ => (pg_name (i := 1) sc_is_measure.nd rfl (by first | exact Or.inl rfl | exact Or.inr rfl))) (fun _ _ _ _ _ => pts_nil) (fun _ _ _ _ _ => (pe_call G_is_within (hr.mono (by decide)) (by rfl) g_is_within F_is_within.kp (bi_is_within F_is_within) .nil pass0 (pa_cons (pv 1) (pa_cons (pe_glob (v := .int 2) (by rfl) c_LEAST_NUMBER ⟨_, rfl⟩) (pa_cons (pe_glob (v := .int 5) (by rfl) c_MOST_NUMBER ⟨_, rfl⟩) pa_nil)))))) pa_nil)))) (pss_one (ps_ret pe_bl)) pss_nil)
      (pss_one (ps_ret (pe_cmpR op_le (pe_call G_product (hr.mono (by decide)) (by rfl) g_product F_product.kp (bi_product F_product) .nil pass0 (pa_cons (pv 0) pa_nil)) (pe_glob (v := .int 30) (by rfl) c_MOST_TIES ⟨_, rfl⟩) (nomark _)))))), ?r⟩)
  case len =>
    obtain ⟨B, ds, _, is, ⟨d, rfl, _⟩, _⟩ := h
    exact is.length
  case r =>
    refine body_P h fun ds hp hl => ?_
    obtain ⟨d, rfl, hpl⟩ := hp
    have ho : d.own = false := plain_own hpl
    refine s_seq (s_if (t_or (t_not (t_B (e_isi kit_tup (e_var rfl ⟨ho, _, rfl, ?_⟩))))))
    cases d with
    | tup xs =>
      refine t_not (t_B (e_callP (a_cons (e_cb (a_cons (e_var rfl (a_nil (v_lenT (a_cons (e_int (a_cons (e_int (a_nil ⟨⟨_, _, _, rfl, rfl⟩, _, rfl, ?_⟩)))))))))))))
      cases e : D.within 1 3 (.int xs.length) with
      | false =>
        refine s_ret (e_bl ?_)
        show D.bl false = .bl (D.meas (.tup xs))
        rw [D.meas, show (decide (1 ≤ xs.length) && decide (xs.length ≤ 3)) = false from within_len e]
        rfl
      | true =>
        refine s_next ?_
        have e3 : (decide (1 ≤ xs.length) && decide (xs.length ≤ 3)) = true := within_len e
        have hlen : xs.length ≤ 3 := by
          rw [Bool.and_eq_true, decide_eq_true_eq, decide_eq_true_eq] at e3
          exact e3.2
        have hpx : ∀ x ∈ xs, x.own = false := fun x hx => plain_own (plains_mem (by simpa [D.plain] using hpl) hx)
        refine s_seq (s_if (t_not (t_B (e_cb (a_cons (e_lcT rfl (e_var rfl ⟨xs, rfl, by omega, fun i _ acc => acc = ((xs.take i).map (D.within 2 5)).map D.bl, rfl, ?_, ?_⟩)))))))
        · intro i n acc d hd hI _
          refine e_callP (a_cons (e_var rfl (a_cons (e_int (a_cons (e_int (a_nil ⟨⟨_, _, _, rfl, hpx d (List.mem_of_getElem? hd)⟩, ?_⟩)))))))
          subst hI
          rw [List.take_add_one, hd]
          simp [fWithin]
        · intro n acc _ hI
          subst hI
          rw [List.take_length]
          refine a_nil (v_all ⟨_, rfl, ?_⟩)
          have ea : ((xs.map (D.within 2 5)).all id) = xs.all (D.within 2 5) := by
            rw [List.all_map]; rfl
          rw [ea]
          cases e2 : xs.all (D.within 2 5) with
          | false =>
            refine s_ret (e_bl ?_)
            show D.bl false = .bl (D.meas (.tup xs))
            rw [D.meas, e2, e3]; rfl
          | true =>
            refine s_next (s_ret (e_op (e_callP (a_cons (e_var rfl (a_nil ⟨prod_pre8 e2, e_int (v_B0 ?_)⟩))))))
            show D.bl (decide (D.prod xs ≤ 30)) = .bl (D.meas (.tup xs))
            rw [D.meas, e2, e3]; rfl
    | _ => exact s_ret (e_bl rfl)

theorem ok_times_to {f : Addr} {fd : FuncData} (F : Fun K "times_to" "times_to" s_times_to f fd)
    {f_lead_place : Addr} {fd_lead_place : FuncData} (F_lead_place : Fun K "lead_place" "lead_place" s_lead_place f_lead_place fd_lead_place)
    (G_lead_place : FnOk P w K mg base CX0 2 f_lead_place fd_lead_place ["frame", "turning", "place"] (SpP K (preLp cFrame) fLp))
    (g_lead_place : mg "lead_place" = some (.ref f_lead_place)) :
    FnOk P w K mg base CX0 3 f fd ["frame", "turning", "one", "other"] (SpP K (preTi28 cFrame) fTi28) := by
  refine F.ok sc_times_to (fun vs H Q E h => ?len) (fun cdv A outer s H vs Q E hr h => ⟨_, (pss_cons (ps_set (i := 4) sc_times_to.nd rfl (by first | exact Or.inl rfl | exact Or.inr rfl) (pv 2))
      (pss_cons (ps_set (i := 5) sc_times_to.nd rfl (by first | exact Or.inl rfl | exact Or.inr rfl) pe_int)
      (pss_cons (ps_while PassesOwn.never (pt_cmpR (show OpR _ _ (rNeD K) from op_neD hr.units) (pv 4) (pv 3) (nomark _)) (pss_cons (ps_set (i := 4) sc_times_to.nd rfl (by first | exact Or.inl rfl | exact Or.inr rfl) (pe_call G_lead_place (hr.mono (by decide)) (by rfl) g_lead_place F_lead_place.kp (bi_lead_place F_lead_place) .nil pass0 (pa_cons (pv 0) (pa_cons (pv 1) (pa_cons (pv 4) pa_nil)))))
      (pss_cons (ps_aug (i := 5) sc_times_to.nd rfl (by first | exact Or.inl rfl | exact Or.inr rfl) pe_int iop_add)
      (pss_one (ps_if (pt_cmpR (show OpR _ _ (rEqD K) from op_eqD hr.units) (pv 4) (pv 2) (nomark _)) (pss_one (ps_ret pe_non)) pss_nil)))))
      (pss_one (ps_ret (pv 5)))))), ?r⟩)
  case len =>
    obtain ⟨B, ds, _, is, ⟨ms, hs, t, p, q, rfl, _⟩, _⟩ := h
    exact is.length
  case r =>
    refine body_P h fun ds hp hl => ?_
    obtain ⟨ms, hs, t, p, q, rfl, hM, h16, ht, hp, hq⟩ := hp
    have htl := ht.lead.len
    rw [fTi28_is, htl]
    obtain ⟨s1, s2, s3⟩ := perP_spec28 hM ht hp
    have ipl := fun k => itP_pl28 hM ht hp k
    have inum : ∀ k, Num 3 1700 (dspot (itP28 ms t k p)) := fun k => num_place hM (by omega) (ipl k).lt (ipl k).len (ipl k).tie
    have qnum : Num 3 1700 (dspot q) := num_place hM (by omega) hq.lt hq.len hq.tie
    have dsp : ∀ x y : Spot, dspot x = dspot y → x = y := fun x y e => by
      have := congrArg uspot e
      rwa [uspot_dspot, uspot_dspot] at this
    walk_at "body"
    walk_at "ev"
    refine s_seq (s_while (q0 := perP28 ms hs.length t p) (I := fun w n ρ' => n = 0 ∧ ∃ j : Nat, j + w = perP28 ms hs.length t p ∧ (∀ i, i < j → itP28 ms t i p ≠ q) ∧
      ρ' = [some (.dat (frD cFrame ms hs)), some (.dat (dturn t)), some (.dat (dspot p)), some (.dat (dspot q)), some (.dat (dspot (itP28 ms t j p))), some (.dat (.int (j : Nat)))]) ⟨rfl, 0, Nat.zero_add _, fun i hi => by omega, rfl⟩ ?_)
    rintro w n ρ' ⟨rfl, j, hj, hno, rfl⟩
    walk_at "ev"
    by_cases e : itP28 ms t j p = q
    · rw [e]
      refine v_neDs qnum (by omega) ⟨_, rfl, ?_⟩
      rw [if_neg Bool.false_ne_true]
      refine s_next ?_
      refine s_ret (e_var rfl ?_)
      have hm : q ∈ ringP28 ms hs.length t p := (ringP_mem28 hM ht hp).mpr ⟨j, e⟩
      have hjr := ringP_get28 (ms := ms) (t := t) (n := hs.length) (p := p) (k := j) (by omega)
      rw [e] at hjr
      have h1 := idx_le28 _ _ _ hjr
      have h2 := idx_at28 hm
      have h3 : (ringP28 ms hs.length t p).idxOf q = j := by
        rcases Nat.lt_or_ge ((ringP28 ms hs.length t p).idxOf q) j with z | z
        · have h4 := ringP_get28 (ms := ms) (t := t) (n := hs.length) (p := p) (k := (ringP28 ms hs.length t p).idxOf q) (by omega)
          rw [h2] at h4
          exact absurd (Option.some.inj h4).symm (hno _ z)
        · omega
      rw [if_pos hm, h3]
    · refine v_neDo (inum j) qnum (by omega) (by omega) (fun z => e (dsp _ _ z)) ⟨_, rfl, ?_⟩
      rw [if_pos rfl]
      walk_at "ev"
      refine ⟨⟨ms, hs, t, _, rfl, hM, h16, ht, ipl j⟩, ?_⟩
      rw [fLp_is]
      walk_at "ev"
      refine s_aug rfl (e_int (v_I0 ?_))
      rw [show ledP ms t (itP28 ms t j p) = itP28 ms t (j + 1) p from rfl]
      walk_at "ro"
      walk_at "ev"
      by_cases e1 : itP28 ms t (j + 1) p = p
      · rw [e1]
        refine v_eqD ((inum 0).eqs (by omega)) ((inum 0).eqs (by omega)) ?_
        rw [show PyData.eqv (dspot p).py (dspot p).py = true from (inum 0).same]
        walk_at "ev"
        have hjp : j = perP28 ms hs.length t p := by
          rcases Nat.lt_or_ge j (perP28 ms hs.length t p) with z | z
          · exact absurd e1 (s3 j z)
          · omega
        rw [if_neg fun hm => ?_]
        obtain ⟨k, hk⟩ := (ringP_mem28 hM ht hp).mp hm
        rw [itP_mod28 hM ht hp] at hk
        have hkl := Nat.mod_lt k (show 0 < perP28 ms hs.length t p + 1 by omega)
        by_cases ek : k % (perP28 ms hs.length t p + 1) = j
        · exact e (by rw [← ek]; exact hk)
        · exact hno _ (by omega) hk
      · refine v_eqDo (inum (j + 1)) (inum 0) (by omega) (by omega) (fun z => e1 (dsp _ _ z)) ?_
        have hjp : j < perP28 ms hs.length t p := by
          rcases Nat.lt_or_ge j (perP28 ms hs.length t p) with z | z
          · exact z
          · exact absurd (by rw [show j = perP28 ms hs.length t p by omega]; exact s2) e1
        walk_at "ev"
        refine ⟨w - 1, by omega, rfl, j + 1, by omega, fun i hi => ?_, rfl⟩
        by_cases ei : i = j
        · rw [ei]; exact e
        · exact hno i (by omega)

theorem ok_is_hue {f : Addr} {fd : FuncData} (F : Fun K "is_hue" "is_hue" s_is_hue f fd)
    {f_is_within : Addr} {fd_is_within : FuncData} (F_is_within : Fun K "is_within" "is_within" s_is_within f_is_within fd_is_within)
    (G_is_within : FnOk P w K mg base CX0 2 f_is_within fd_is_within ["thing", "least", "most"] (SpP K preWithin fWithin))
    (g_is_within : mg "is_within" = some (.ref f_is_within))
    {t_MOST_HUE : Tok} (c_MOST_HUE : mg "MOST_HUE" = some (.int 9 t_MOST_HUE)) :
    FnOk P w K mg base CX0 3 f fd ["thing"] (SpP K preWhole fHue) := by
  refine F.ok sc_is_hue (fun vs H Q E h => ?len) (fun cdv A outer s H vs Q E hr h => ⟨_, (pss_one (ps_ret (pe_call G_is_within (hr.mono (by decide)) (by rfl) g_is_within F_is_within.kp (bi_is_within F_is_within) .nil pass0 (pa_cons (pv 0) (pa_cons pe_int (pa_cons (pe_glob (v := .int 9) (by rfl) c_MOST_HUE ⟨_, rfl⟩) pa_nil)))))), ?r⟩)
  case len =>
    obtain ⟨B, ds, _, is, ⟨d, rfl, _⟩, _⟩ := h
    exact is.length
  case r =>
    refine body_P h fun ds hp hl => ?_
    obtain ⟨d, rfl, ho⟩ := hp
    walk_at "body"
    walk_at "ev"
    exact ⟨⟨_, _, _, rfl, ho⟩, rfl⟩

theorem ok__law_scale {f : Addr} {fd : FuncData} (F : Fun K "_law_scale" "_law_scale" s__law_scale f fd)
    {f__law_of : Addr} {fd__law_of : FuncData} (F__law_of : Fun K "_law_of" "_law_of" s__law_of f__law_of fd__law_of)
    (G__law_of : FnOk P w K mg base CX0 2 f__law_of fd__law_of ["_law_hand_here", "_law_some"] (SpOfV K))
    (g__law_of : mg "_law_of" = some (.ref f__law_of)) :
    FnOk P w K mg base CX0 3 f fd ["_law_hand_here"] (SpH K preSc psiSc) := by
  refine F.ok sc__law_scale (fun vs H Q E h => ?len) (fun cdv A outer s H vs Q E hr h => ⟨_, (pss_cons (ps_set (i := 1) sc__law_scale.nd rfl (by first | exact Or.inl rfl | exact Or.inr rfl) (pe_lst (pa_cons (pe_tupC (pa_cons pe_int pa_nil)) (pa_cons (pe_tupC (pa_cons pe_int (pa_cons pe_int pa_nil))) (pa_cons (pe_tupC (pa_cons pe_int pa_nil)) (pa_cons (pe_tupC (pa_cons pe_int pa_nil)) (pa_cons (pe_tupC (pa_cons pe_int pa_nil)) (pa_cons (pe_tupC (pa_cons pe_int (pa_cons pe_int pa_nil))) (pa_cons (pe_tupC (pa_cons pe_int (pa_cons pe_int (pa_cons pe_int pa_nil)))) (pa_cons (pe_tupC (pa_cons pe_int (pa_cons pe_int pa_nil))) (pa_cons (pe_tupC (pa_cons pe_int (pa_cons pe_int pa_nil))) (pa_cons (pe_tupC (pa_cons pe_int (pa_cons pe_int (pa_cons pe_int pa_nil)))) (pa_cons (pe_tupC (pa_cons pe_int (pa_cons pe_int pa_nil))) (pa_cons (pe_tupC (pa_cons pe_int (pa_cons pe_int pa_nil))) pa_nil))))))))))))))
      (pss_one (ps_ret (pe_call G__law_of (hr.mono (by decide)) (by rfl) g__law_of F__law_of.kp (bi__law_of F__law_of) .nil pass0 (pa_cons (pv 0) (pa_cons (pe_op op_cat (pv 1) (pe_lst (pa_cons (pe_tupC (pa_cons pe_int (pa_cons pe_int (pa_cons pe_int pa_nil)))) (pa_cons (pe_tupC (pa_cons pe_int (pa_cons pe_int (pa_cons pe_int pa_nil)))) pa_nil)))) pa_nil)))))), ?r⟩)
  case len =>
    obtain ⟨l, ws, B, ds, m, rfl, _, _, _, is, ⟨_, rfl⟩, _⟩ := h
    show ws.length + 1 = 1
    rw [is.length]; rfl
  case r =>
    refine body_H h fun a ds m hp hl => ?_
    obtain ⟨hm, rfl⟩ := hp
    walk_at "body"
    walk_at "ev"
    refine v_catL (by simp) ?_
    walk_at "ev"
    refine ⟨⟨by omega, _, _, rfl, rfl, by simp, by simp⟩, fun m2 d hd => ?_⟩
    obtain ⟨hm2, c, xs, e, hc, hx⟩ := hd
    cases e
    cases hc
    obtain ⟨ms, h1, h2, rfl⟩ := scales14 hx
    exact ⟨hm2, ms, ⟨h1, h2⟩, rfl⟩

theorem ok__law_colours {f : Addr} {fd : FuncData} (F : Fun K "_law_colours" "_law_colours" s__law_colours f fd)
    {f__law_take : Addr} {fd__law_take : FuncData} (F__law_take : Fun K "_law_take" "_law_take" s__law_take f__law_take fd__law_take)
    (G__law_take : FnOk P w K mg base CX0 1 f__law_take fd__law_take ["_law_hand_here", "_law_many"] (SpH K preTake psiTake))
    (g__law_take : mg "_law_take" = some (.ref f__law_take))
    {f__law_of : Addr} {fd__law_of : FuncData} (F__law_of : Fun K "_law_of" "_law_of" s__law_of f__law_of fd__law_of)
    (G__law_of : FnOk P w K mg base CX0 2 f__law_of fd__law_of ["_law_hand_here", "_law_some"] (SpOfV K))
    (g__law_of : mg "_law_of" = some (.ref f__law_of))
    (m_range : mg "range" = none)
    (m_tuple : mg "tuple" = none) :
    FnOk P w K mg base CX0 3 f fd ["_law_hand_here", "_law_most"] (SpH K preCol psiCol) := by
  refine F.ok sc__law_colours (fun vs H Q E h => ?len) (fun cdv A outer s H vs Q E hr h => ⟨_, (pss_cons (ps_set (i := 2) sc__law_colours.nd rfl (by first | exact Or.inl rfl | exact Or.inr rfl) (pe_call G__law_of (hr.mono (by decide)) (by rfl) g__law_of F__law_of.kp (bi__law_of F__law_of) .nil pass0 (pa_cons (pv 0) (pa_cons (pe_lst (pa_cons (pe_tupC (pa_cons pe_int pa_nil)) (pa_cons (pe_tupC (pa_cons pe_int (pa_cons pe_int (pa_cons pe_int pa_nil)))) (pa_cons (pe_tupC (pa_cons pe_int (pa_cons pe_int (pa_cons pe_int (pa_cons pe_int (pa_cons pe_int (pa_cons pe_int (pa_cons pe_int (pa_cons pe_int (pa_cons pe_int (pa_cons pe_int pa_nil))))))))))) (pa_cons (pe_tupC (pa_cons pe_int (pa_cons pe_int (pa_cons pe_int pa_nil)))) pa_nil))))) pa_nil))))
      (pss_one (ps_ret (pe_callTy (show CallR _ _ (rTupC K) from call_tupC) (by rfl) m_tuple (by decide +kernel) (pa_cons (pe_lc (own := [("_law_turn", 3)]) (g := gName 3) (tt := tYes) rfl sc__law_colours.nd (pi_range1 rfl m_range (pa_cons (pe_op op_add pe_int (pe_call G__law_take (hr.mono (by decide)) (by rfl) g__law_take F__law_take.kp (bi__law_take F__law_take) .nil pass0 (pa_cons (pv 0) (pa_cons (pe_op op_sub (pv 1) pe_int) pa_nil)))) pa_nil)) (blkOk_by (own := [("_law_turn", 3)]) (N := ["_law_hand_here", "_law_most", "_law_kinds", "_law_turn"]) (sc := defScope s__law_colours) (by decide +kernel)) (fun _ _ _ _ _ => (pg_name (i := 3) sc__law_colours.nd rfl (by first | exact Or.inl rfl | exact Or.inr rfl))) (fun _ _ _ _ _ => pts_nil) (fun _ _ _ _ _ => (pe_call G__law_of (hr.mono (by decide)) (by rfl) g__law_of F__law_of.kp (bi__law_of F__law_of) .nil pass0 (pa_cons (pv 0) (pa_cons (pv 2) pa_nil))))) pa_nil))))), ?r⟩)
  case len =>
    obtain ⟨l, ws, B, ds, m, rfl, _, _, _, is, ⟨_, z, rfl, _⟩, _⟩ := h
    show ws.length + 1 = 2
    rw [is.length]; rfl
  case r =>
    refine body_H h fun a ds m hp hl => ?_
    obtain ⟨hm, z, rfl, hz, hz2⟩ := hp
    walk_at "body"
    walk_at "ev"
    refine ⟨⟨by omega, _, _, rfl, rfl, by simp, by simp⟩, fun m2 d hd => ?_⟩
    obtain ⟨hm2, c, xs, e, hc, hx⟩ := hd
    cases e
    cases hc
    have hk : ∃ ks : List Int, d = .tup (dints ks) ∧ ks ≠ [] ∧ ks.length ≤ 10 ∧ ∀ n ∈ ks, 0 ≤ n ∧ n ≤ 9 := by
      simp only [List.mem_cons, List.not_mem_nil, or_false] at hx
      rcases hx with rfl | rfl | rfl | rfl
      · exact ⟨[0], rfl, by simp, by simp, by simp⟩
      · exact ⟨[0, 0, 1], rfl, by simp, by simp, by simp⟩
      · exact ⟨[7, 3, 2, 9, 5, 0, 1, 4, 6, 8], rfl, by simp, by simp, by simp⟩
      · exact ⟨[9, 0, 4], rfl, by simp, by simp, by simp⟩
    obtain ⟨ks, rfl, hk1, hk2, hk3⟩ := hk
    refine s_ret (e_cb (a_cons (e_lcR rfl ?_)))
    walk_at "ev"
    refine ⟨⟨by omega, _, rfl, by omega, takeB_of (by omega)⟩, fun m3 d3 q3 => ?_⟩
    obtain ⟨hm3, n3, r3, e3, rfl, q4, q5⟩ := q3
    cases e3
    walk_at "ev"
    refine ⟨by omega, by omega, fun i n acc => n ≤ m3 + i ∧ ∃ hs : List Int, acc = dints hs ∧ hs.length = i ∧ ∀ n ∈ hs, 0 ≤ n ∧ n ≤ 9, ⟨by omega, [], rfl, rfl, by simp⟩, ?_, ?_⟩
    · intro i n acc hi hI _
      obtain ⟨hn, hs, rfl, hl2, hb⟩ := hI
      walk_at "ev"
      refine ⟨⟨by omega, _, _, rfl, rfl, ?_, by rw [dints_length]; omega⟩, fun m5 d5 q5 => ?_⟩
      · intro w
        exact hk1 (dints_inj (b := []) w)
      · obtain ⟨hm5, c, xs, e, hc, hx⟩ := q5
        cases e
        cases hc
        obtain ⟨y, hy, rfl⟩ := List.mem_map.mp hx
        refine ⟨by omega, hs ++ [y], by rw [dints_snoc], by simp [hl2], fun n hn => ?_⟩
        rcases List.mem_append.mp hn with w | w
        · exact hb n w
        · rw [List.mem_singleton] at w
          subst w
          exact hk3 _ hy
    · intro n acc hal hI
      obtain ⟨hn, hs, rfl, hl2, hb⟩ := hI
      walk_at "ev"
      refine ⟨by omega, hs, z, rfl, rfl, ⟨by omega, by omega, hb⟩, by omega⟩

theorem ok__law_grid {f : Addr} {fd : FuncData} (F : Fun K "_law_grid" "_law_grid" s__law_grid f fd)
    {f__law_take : Addr} {fd__law_take : FuncData} (F__law_take : Fun K "_law_take" "_law_take" s__law_take f__law_take fd__law_take)
    (G__law_take : FnOk P w K mg base CX0 1 f__law_take fd__law_take ["_law_hand_here", "_law_many"] (SpH K preTake psiTake))
    (g__law_take : mg "_law_take" = some (.ref f__law_take))
    {f__law_knot : Addr} {fd__law_knot : FuncData} (F__law_knot : Fun K "_law_knot" "_law_knot" s__law_knot f__law_knot fd__law_knot)
    (G__law_knot : FnOk P w K mg base CX0 2 f__law_knot fd__law_knot ["_law_hand_here", "_law_scale_here"] (SpH K preKn psiKn))
    (g__law_knot : mg "_law_knot" = some (.ref f__law_knot))
    (m_len : mg "len" = none)
    (m_range : mg "range" = none)
    (m_tuple : mg "tuple" = none) :
    FnOk P w K mg base CX0 3 f fd ["_law_hand_here", "_law_scale_here", "_law_many"] (SpH K preGrid psiGrid) := by
  refine F.ok sc__law_grid (fun vs H Q E h => ?len) (fun cdv A outer s H vs Q E hr h => ⟨_, (pss_cons (ps_par (i := 4) (j := 5) rfl sc__law_grid.nd rfl rfl (by decide) rfl rfl (pa_cons (pe_lst pa_nil) (pa_cons (pe_call G__law_take (hr.mono (by decide)) (by rfl) g__law_take F__law_take.kp (bi__law_take F__law_take) .nil pass0 (pa_cons (pv 0) (pa_cons pe_int pa_nil))) pa_nil)) (by rfl))
      (pss_cons (ps_for PassesOwn.never rfl (pi_range1 rfl m_range (pa_cons (pv 2) pa_nil)) (pg_name (i := 3) sc__law_grid.nd rfl (by first | exact Or.inl rfl | exact Or.inr rfl)) (pss_cons (ps_set (i := 6) sc__law_grid.nd rfl (by first | exact Or.inl rfl | exact Or.inr rfl) (pe_lst pa_nil))
      (pss_cons (ps_for PassesOwn.never rfl (pi_range1 rfl m_range (pa_cons (pv 3) pa_nil)) (pg_name (i := 7) sc__law_grid.nd rfl (by first | exact Or.inl rfl | exact Or.inr rfl)) (pss_one (ps_expr (pe_bm PySem.F.plainAttrs_list PySem.F.slot_list_append PySem.F.type_list_append mt_append (pv 6) (pa_cons (pe_ifExp (pt_cmpR op_ge (pe_call G__law_take (hr.mono (by decide)) (by rfl) g__law_take F__law_take.kp (bi__law_take F__law_take) .nil pass0 (pa_cons (pv 0) (pa_cons pe_int pa_nil))) (pv 5) (nomark _)) (pe_call G__law_knot (hr.mono (by decide)) (by rfl) g__law_knot F__law_knot.kp (bi__law_knot F__law_knot) .nil pass0 (pa_cons (pv 0) (pa_cons (pv 1) pa_nil))) (pe_op (show OpR _ _ (rRepA K) from op_repA) (pe_tupC (pa_cons pe_int pa_nil)) (pe_callB (show CallR _ _ (rLenQ K) from call_len_seq) (by rfl) m_len (by decide +kernel) (pa_cons (pv 1) pa_nil)))) pa_nil)))))
      (pss_one (ps_expr (pe_bm PySem.F.plainAttrs_list PySem.F.slot_list_append PySem.F.type_list_append mt_append (pv 4) (pa_cons (pe_callTy (show CallR _ _ (rTupC K) from call_tupC) (by rfl) m_tuple (by decide +kernel) (pa_cons (pv 6) pa_nil)) pa_nil)))))))
      (pss_one (ps_ret (pe_callTy (show CallR _ _ (rTupC K) from call_tupC) (by rfl) m_tuple (by decide +kernel) (pa_cons (pv 4) pa_nil)))))), ?r⟩)
  case len =>
    obtain ⟨l, ws, B, ds, m, rfl, _, _, _, is, ⟨_, ms, n, rfl, _⟩, _⟩ := h
    show ws.length + 1 = 3
    rw [is.length]; rfl
  case r =>
    refine body_H h fun a ds m hp hl => ?_
    obtain ⟨hm, ms, n, rfl, hM, hn0, hn16⟩ := hp
    have hl3 := hM.2.1
    obtain ⟨n, rfl⟩ : ∃ k : Nat, n = k := ⟨n.toNat, by omega⟩
    walk_at "body"
    refine s_seq (s_parOwn (by decide) ?_)
    walk_at "ev"
    refine g_take (n := 3) (by omega) (by omega) (by omega) fun m3 r3 q3 hr3 => ?_
    refine a_nil ⟨_, rfl, ?_⟩
    walk_at "ro"
    refine s_seq (s_forRw ?_)
    walk_at "ev"
    refine ⟨n, 70, [3, 4, 6, 7], fun i xs => ∃ x3 T x6 x7, xs = [x3, some (.own (T.map dsays)), x6, x7] ∧ TabP ms i T, [_, _, _, _], by omega, by omega, rfl, rfl, ⟨_, [], _, _, rfl, rfl, fun i r h => by simp at h⟩, fun i k xs hi hk hx hR => ?_, fun k xs hk hx hR => ?_⟩
    · obtain ⟨x3, T, x6, x7, rfl, hT⟩ := hR
      have hTl := hT.1
      walk_at "ro"
      refine s_seq (s_own0 ?_)
      walk_at "ro"
      refine s_seq (s_forRw ?_)
      walk_at "ev"
      refine ⟨i, 4, [6, 7], fun j xs => ∃ (r : List (List Int)) (x7 : Option Sl), xs = [some (.own (r.map fun t => D.tup (dints t))), x7] ∧ r.length = j ∧ ∀ t ∈ r, TieP ms t, [_, _], by omega, by omega, rfl, rfl, ⟨[], _, rfl, rfl, by simp⟩, fun j k2 xs hj hk2 hx2 hR2 => ?_, fun k2 xs hk2 hx2 hR2 => ?_⟩
      · obtain ⟨r, x7, rfl, hr, hrt⟩ := hR2
        have fin : ∀ (t : List Int), TieP ms t → ∃ (r' : List (List Int)) (x7 : Option Sl), [some (Sl.own ((r.map fun t => D.tup (dints t)) ++ [.tup (dints t)])), some (Sl.dat (.int (j : Nat)))] = [some (Sl.own (r'.map fun t => D.tup (dints t))), x7] ∧ r'.length = j + 1 ∧ ∀ t ∈ r', TieP ms t := fun t ht => by
          refine ⟨r ++ [t], _, by rw [List.map_append]; rfl, by rw [List.length_append, hr]; rfl, fun u hu => ?_⟩
          rcases List.mem_append.mp hu with w | w
          · exact hrt u w
          · rw [List.mem_singleton.mp w]; exact ht
        walk_at "ro"
        refine s_app (i := 6) rfl (by rw [List.length_map, hr]; omega) ?_
        walk_at "ev"
        refine g_take (n := 3) (by omega) (by omega) (by omega) fun m5 r5 q5 hr5 => ?_
        walk_at "ev"
        cases decide ((r5 : Int) ≥ (r3 : Int)) with
        | true =>
          show EvC _ _ _ _ _ _
          walk_at "ev"
          refine g_knot (by omega) hM fun m6 t q6 ht => ?_
          exact ⟨by omega, [_, _], rfl, rfl, fin t ht⟩
        | false =>
          show EvC _ _ _ _ _ _
          walk_at "ev"
          exact ⟨by omega, [_, _], rfl, rfl, fin _ (rep_tie hM)⟩
      · obtain ⟨r, x7, rfl, hr, hrt⟩ := hR2
        walk_at "ro"
        refine s_app (i := 4) rfl (by rw [List.length_map]; omega) ?_
        repeat (first | with_reducible refine e_tupOwn (i := 6) (by with_unfolding_all rfl) ?_ | walk_at "ev1")
        refine ⟨by omega, [_, _, _, _], rfl, rfl, _, T ++ [r], _, _, by rw [List.map_append]; rfl, by rw [List.length_append, hTl]; rfl, fun c r' hc => ?_⟩
        by_cases w : c < T.length
        · rw [List.getElem?_append_left w] at hc
          exact hT.2 c r' hc
        · have hc2 : c = T.length := by
            have := (List.getElem?_eq_some_iff.mp hc).1
            simp at this
            omega
          subst hc2
          rw [List.getElem?_append_right (Nat.le_refl _)] at hc
          simp at hc
          subst hc
          exact ⟨by rw [hr, hT.1], hrt⟩
    · obtain ⟨x3, T, x6, x7, rfl, hT⟩ := hR
      walk_at "ro"
      refine s_freeze (i := 4) rfl ?_
      walk_at "ev"
      exact ⟨by omega, ms, n, T, rfl, hT, rfl⟩

theorem ok__law_spot {f : Addr} {fd : FuncData} (F : Fun K "_law_spot" "_law_spot" s__law_spot f fd)
    {f__law_knot : Addr} {fd__law_knot : FuncData} (F__law_knot : Fun K "_law_knot" "_law_knot" s__law_knot f__law_knot fd__law_knot)
    (G__law_knot : FnOk P w K mg base CX0 2 f__law_knot fd__law_knot ["_law_hand_here", "_law_scale_here"] (SpH K preKn psiKn))
    (g__law_knot : mg "_law_knot" = some (.ref f__law_knot))
    (m_len : mg "len" = none)
    (m_range : mg "range" = none)
    (m_tuple : mg "tuple" = none) :
    FnOk P w K mg base CX0 3 f fd ["_law_hand_here", "_law_scale_here", "_law_many", "_law_at_here"] (SpH K preSpot psiSpot) := by
  refine F.ok sc__law_spot (fun vs H Q E h => ?len) (fun cdv A outer s H vs Q E hr h => ⟨_, (pss_one (ps_ret (pe_tupC (pa_cons (pv 3) (pa_cons (pe_callTy (show CallR _ _ (rTupC K) from call_tupC) (by rfl) m_tuple (by decide +kernel) (pa_cons (pe_lc (own := [("_law_to", 4)]) (g := gName 4) (tt := tYes) rfl sc__law_spot.nd (pi_range1 rfl m_range (pa_cons (pv 2) pa_nil)) (blkOk_by (own := [("_law_to", 4)]) (N := ["_law_hand_here", "_law_scale_here", "_law_many", "_law_at_here", "_law_to"]) (sc := defScope s__law_spot) (by decide +kernel)) (fun _ _ _ _ _ => (pg_name (i := 4) sc__law_spot.nd rfl (by first | exact Or.inl rfl | exact Or.inr rfl))) (fun _ _ _ _ _ => pts_nil) (fun _ _ _ _ _ => (pe_ifExp (pt_cmpR op_eq (pv 4) (pv 3) (nomark _)) (pe_op (show OpR _ _ (rRepA K) from op_repA) (pe_tupC (pa_cons pe_int pa_nil)) (pe_callB (show CallR _ _ (rLenQ K) from call_len_seq) (by rfl) m_len (by decide +kernel) (pa_cons (pv 1) pa_nil))) (pe_call G__law_knot (hr.mono (by decide)) (by rfl) g__law_knot F__law_knot.kp (bi__law_knot F__law_knot) .nil pass0 (pa_cons (pv 0) (pa_cons (pv 1) pa_nil)))))) pa_nil)) pa_nil))))), ?r⟩)
  case len =>
    obtain ⟨l, ws, B, ds, m, rfl, _, _, _, is, ⟨_, ms, n, a, rfl, _⟩, _⟩ := h
    show ws.length + 1 = 4
    rw [is.length]; rfl
  case r =>
    refine body_H h fun ad ds m hp hl => ?_
    obtain ⟨hm, ms, n, a, rfl, hM, ha, hn⟩ := hp
    walk_at "body"
    walk_at "ev"
    refine e_lcRd rfl ?_
    walk_at "ev"
    refine ⟨n, 3, fun i y => ∃ t, y = D.tup (dints t) ∧ TieP ms t ∧ (i = a → t = List.replicate ms.length 0), rfl, by omega, fun i k hi hk => ?_, fun k ys hk hy hP => ?_⟩
    · walk_at "ev"
      by_cases e : (i : Int) = a
      · walk_at "yes"
        walk_at "ev"
        exact ⟨rep_tie hM, fun _ => rfl⟩
      · walk_at "no"
        walk_at "ev"
        refine ⟨⟨by omega, ms, rfl, hM⟩, fun m6 d6 q6 => ?_⟩
        obtain ⟨hm6, ms6, t6, e6, ht6, rfl⟩ := q6
        cases tup_inj (List.cons.inj e6).1
        exact ⟨by omega, t6, rfl, ht6, fun w => absurd (by omega) e⟩
    · obtain ⟨S, rfl, hS⟩ := map_dints hP
      rw [List.length_map] at hy
      walk_at "ev"
      refine ⟨by omega, ms, n, a, S, rfl, ⟨ha, hy, fun t ht => ?_, ?_⟩, rfl⟩
      · obtain ⟨i, hi⟩ := List.getElem?_of_mem ht
        exact (hS i t hi).1
      · obtain ⟨t, et⟩ := says_get hy ha
        rw [et, (hS a t et).2 rfl]

theorem ok__law_leads {f : Addr} {fd : FuncData} (F : Fun K "_law_leads" "_law_leads" s__law_leads f fd)
    {f__law_mixed : Addr} {fd__law_mixed : FuncData} (F__law_mixed : Fun K "_law_mixed" "_law_mixed" s__law_mixed f__law_mixed fd__law_mixed)
    (G__law_mixed : FnOk P w K mg base CX0 2 f__law_mixed fd__law_mixed ["_law_hand_here", "_law_some"] (SpF K preMix psiMix))
    (g__law_mixed : mg "_law_mixed" = some (.ref f__law_mixed))
    (m_dict : mg "dict" = none)
    (m_len : mg "len" = none)
    (m_range : mg "range" = none)
    (m_tuple : mg "tuple" = none) :
    FnOk P w K mg base CX0 3 f fd ["_law_hand_here", "_law_hues"] (SpH K preLd psiLd) := by
  refine F.ok sc__law_leads (fun vs H Q E h => ?len) (fun cdv A outer s H vs Q E hr h => ⟨_, (pss_cons (ps_set (i := 2) sc__law_leads.nd rfl (by first | exact Or.inl rfl | exact Or.inr rfl) (pe_callTy (show CallR _ _ (rDct K) from call_dictP rfl) (by rfl) m_dict (by decide +kernel) (pa_cons (pe_lc (own := [("_law_hue", 3)]) (g := gName 3) (tt := tYes) rfl sc__law_leads.nd (pi_tup (pv 1)) (blkOk_by (own := [("_law_hue", 3)]) (N := ["_law_hand_here", "_law_hues", "_law_left", "_law_hue", "_law_at_here"]) (sc := defScope s__law_leads) (by decide +kernel)) (fun _ _ _ _ _ => (pg_name (i := 3) sc__law_leads.nd rfl (by first | exact Or.inl rfl | exact Or.inr rfl))) (fun _ _ _ _ _ => pts_nil) (fun _ _ _ _ _ => (pe_tupC (pa_cons (pv 3) (pa_cons (pe_call G__law_mixed (hr.mono (by decide)) (by rfl) g__law_mixed F__law_mixed.kp (bi__law_mixed F__law_mixed) .nil pass0 (pa_cons (pv 0) (pa_cons (pe_lc (own := [("_law_at_here", 4)]) (g := gName 4) rfl sc__law_leads.nd (pi_range1 rfl m_range (pa_cons (pe_callB (show CallR _ _ (rLenQ K) from call_len_seq) (by rfl) m_len (by decide +kernel) (pa_cons (pv 1) pa_nil)) pa_nil)) (blkOk_by (own := [("_law_at_here", 4)]) (N := ["_law_hand_here", "_law_hues", "_law_left", "_law_hue", "_law_at_here"]) (by show blkC _ (relS _ (defScope s__law_leads)) _ _ = true; decide +kernel)) (fun _ _ _ _ _ => (pg_name (i := 4) sc__law_leads.nd rfl (by first | exact Or.inl rfl | exact Or.inr rfl))) (fun _ _ _ _ _ => (pts_one (pt_cmpR op_eq (pe_ix (show IxR _ (rIxT K) from ix_tup) (pv 1) (pv 4) (fun _ _ => rfl)) (pv 3) (nomark _)))) (fun _ _ _ _ _ => (pv 4))) pa_nil))) pa_nil))))) pa_nil)))
      (pss_one (ps_ret (pe_callTy (show CallR _ _ (rTupC K) from call_tupC) (by rfl) m_tuple (by decide +kernel) (pa_cons (pe_lc (own := [("_law_hue", 3)]) (g := gName 3) (tt := tYes) rfl sc__law_leads.nd (pi_tup (pv 1)) (blkOk_by (own := [("_law_hue", 3)]) (N := ["_law_hand_here", "_law_hues", "_law_left", "_law_hue", "_law_at_here"]) (sc := defScope s__law_leads) (by decide +kernel)) (fun _ _ _ _ _ => (pg_name (i := 3) sc__law_leads.nd rfl (by first | exact Or.inl rfl | exact Or.inr rfl))) (fun _ _ _ _ _ => pts_nil) (fun _ _ _ _ _ => (pe_bm0K (K := K) rfl PySem.F.plainAttrs_list PySem.F.slot_list_pop PySem.F.type_list_pop mt_pop (pe_dgetR hr (pv 2) (pv 3) (fun _ _ => rfl))))) pa_nil))))), ?r⟩)
  case len =>
    obtain ⟨l, ws, B, ds, m, rfl, _, _, _, is, ⟨_, hs, rfl, _⟩, _⟩ := h
    show ws.length + 1 = 2
    rw [is.length]; rfl
  case r =>
    refine body_H h fun ad ds m hp hl => ?_
    obtain ⟨hm, hs, rfl, hn⟩ := hp
    walk_at "body"
    refine s_leads (h := 3) (d := 2) (k := 200) (hs := hs) (pos := posF hs) rfl rfl (by decide) rfl (by omega) (pos_len hs) (fun i n g hg hn2 => ?_) (fun n L hn2 hL => ?_)
    · walk_at "ro"
      have hi := (List.getElem?_eq_some_iff.mp hg).1
      refine f_call rfl ?_
      walk_at "ev"
      refine e_lcRxf rfl ?_
      walk_at "ev"
      rw [dints_length]
      refine ⟨hs.length, fun i => decide (hs.getD i 0 = g), fun i => .int i, rfl, by omega, fun j hj => ?_, fun j hj => ?_, ?_⟩
      · have hj2 : (dints hs)[j]? = some (.int (hs.getD j 0)) := by
          rw [dints, List.getElem?_map, List.getElem?_eq_getElem hj, List.getD_eq_getElem?_getD, List.getElem?_eq_getElem hj]
          rfl
        walk_at "ev"
        rfl
      · walk_at "ev"
        rfl
      · walk_at "ev"
        refine ⟨⟨by omega, _, _, rfl, rfl, ?_, ?_⟩, fun m2 es q => ?_⟩
        · rw [List.length_map]
          have := List.length_filter_le (fun i => decide (hs.getD i 0 = g)) (List.range hs.length)
          simp at this
          simp
          omega
        · intro x hx
          obtain ⟨j, hj, rfl⟩ := List.mem_map.mp hx
          have := List.mem_range.mp (List.mem_filter.mp hj).1
          exact .inl ((num_int (by omega) (by omega)).up (by omega) (by omega))
        · obtain ⟨q1, c, xs, e, hc, hP⟩ := q
          cases (List.cons.inj e).1
          cases hc
          have hP' : es.Perm (dints (posF hs g)) := by
            rw [posF, dints, List.map_map]; exact hP
          obtain ⟨L, rfl, hL⟩ := perm_ints hP'
          exact ⟨q1, L, rfl, hL⟩
    · obtain ⟨L', rfl, hL'⟩ := pop_lead hL
      refine ⟨by omega, hs, L', rfl, ?_, hL'⟩
      rw [List.map_map]
      rfl

theorem ok__law_spots {f : Addr} {fd : FuncData} (F : Fun K "_law_spots" "_law_spots" s__law_spots f fd)
    {f__law_take : Addr} {fd__law_take : FuncData} (F__law_take : Fun K "_law_take" "_law_take" s__law_take f__law_take fd__law_take)
    (G__law_take : FnOk P w K mg base CX0 1 f__law_take fd__law_take ["_law_hand_here", "_law_many"] (SpH K preTake psiTake))
    (g__law_take : mg "_law_take" = some (.ref f__law_take))
    {f__law_of : Addr} {fd__law_of : FuncData} (F__law_of : Fun K "_law_of" "_law_of" s__law_of f__law_of fd__law_of)
    (G__law_of : FnOk P w K mg base CX0 2 f__law_of fd__law_of ["_law_hand_here", "_law_some"] (SpOfV K))
    (g__law_of : mg "_law_of" = some (.ref f__law_of))
    {f__law_knot : Addr} {fd__law_knot : FuncData} (F__law_knot : Fun K "_law_knot" "_law_knot" s__law_knot f__law_knot fd__law_knot)
    (G__law_knot : FnOk P w K mg base CX0 2 f__law_knot fd__law_knot ["_law_hand_here", "_law_scale_here"] (SpH K preKn psiKn))
    (g__law_knot : mg "_law_knot" = some (.ref f__law_knot))
    (m_len : mg "len" = none)
    (m_list : mg "list" = none)
    (m_range : mg "range" = none)
    (m_tuple : mg "tuple" = none) :
    FnOk P w K mg base CX0 3 f fd ["_law_hand_here", "_law_scale_here", "_law_size", "_law_many"] (SpH K preSs35 psiSs28) := by
  refine F.ok sc__law_spots (fun vs H Q E h => ?len) (fun cdv A outer s H vs Q E hr h => ⟨_, (pss_cons (ps_set (i := 4) sc__law_spots.nd rfl (by first | exact Or.inl rfl | exact Or.inr rfl) (pe_lst pa_nil))
      (pss_cons (ps_for PassesOwn.never rfl (pi_range1 rfl m_range (pa_cons (pv 3) pa_nil)) (pg_name (i := 5) sc__law_spots.nd rfl (by first | exact Or.inl rfl | exact Or.inr rfl)) (pss_cons (ps_par (i := 8) (j := 9) rfl sc__law_spots.nd rfl rfl (by decide) rfl rfl (pa_cons (pe_call G__law_take (hr.mono (by decide)) (by rfl) g__law_take F__law_take.kp (bi__law_take F__law_take) .nil pass0 (pa_cons (pv 0) (pa_cons (pv 2) pa_nil))) (pa_cons (pe_op (show OpR _ _ (rRepA K) from op_repA) (pe_tupC (pa_cons (pe_op (show OpR _ _ (rRepA K) from op_repA) (pe_tupC (pa_cons pe_int pa_nil)) (pe_callB (show CallR _ _ (rLenQ K) from call_len_seq) (by rfl) m_len (by decide +kernel) (pa_cons (pv 1) pa_nil))) pa_nil)) (pv 2)) pa_nil)) (by rfl))
      (pss_cons (ps_if (PW.pt (pw_and (pt_cmpR (show OpR _ _ (rNeD K) from op_neD hr.units) (pv 4) (pe_lst pa_nil) (nomark _)) (pw_and1 (pt_cmpR op_eq (pe_call G__law_take (hr.mono (by decide)) (by rfl) g__law_take F__law_take.kp (bi__law_take F__law_take) .nil pass0 (pa_cons (pv 0) (pa_cons pe_int pa_nil))) pe_int (nomark _))))) (pss_one (ps_asg (pe_call G__law_of (hr.mono (by decide)) (by rfl) g__law_of F__law_of.kp (bi__law_of F__law_of) .nil pass0 (pa_cons (pv 0) (pa_cons (pv 4) pa_nil))) (pg_tup rfl (pgs_cons (pg_name (i := 8) sc__law_spots.nd rfl (by first | exact Or.inl rfl | exact Or.inr rfl)) (pgs_cons (pg_name (i := 9) sc__law_spots.nd rfl (by first | exact Or.inl rfl | exact Or.inr rfl)) pgs_nil))))) pss_nil)
      (pss_cons (ps_set (i := 6) sc__law_spots.nd rfl (by first | exact Or.inl rfl | exact Or.inr rfl) (pe_callTy (show CallR _ _ (rListQ K) from call_list_of) (by rfl) m_list (by decide +kernel) (pa_cons (pv 9) pa_nil)))
      (pss_cons (ps_for PassesOwn.never rfl (pi_range1 rfl m_range (pa_cons (pe_call G__law_of (hr.mono (by decide)) (by rfl) g__law_of F__law_of.kp (bi__law_of F__law_of) .nil pass0 (pa_cons (pv 0) (pa_cons (pe_lst (pa_cons pe_int (pa_cons pe_int (pa_cons pe_int (pa_cons (pv 2) pa_nil))))) pa_nil))) pa_nil)) (pg_name (i := 7) sc__law_spots.nd rfl (by first | exact Or.inl rfl | exact Or.inr rfl)) (pss_cons (ps_set (i := 10) sc__law_spots.nd rfl (by first | exact Or.inl rfl | exact Or.inr rfl) (pe_call G__law_take (hr.mono (by decide)) (by rfl) g__law_take F__law_take.kp (bi__law_take F__law_take) .nil pass0 (pa_cons (pv 0) (pa_cons (pv 2) pa_nil))))
      (pss_one (ps_if (pt_cmpR op_ne (pv 10) (pv 8) (nomark _)) (pss_one (ps_asg (pe_call G__law_knot (hr.mono (by decide)) (by rfl) g__law_knot F__law_knot.kp (bi__law_knot F__law_knot) .nil pass0 (pa_cons (pv 0) (pa_cons (pv 1) pa_nil))) (pg_sub (pv 6) (pv 10) set_list))) pss_nil))))
      (pss_one (ps_if (pt_cmpR (show OpR _ _ (rNotInD K) from op_notInE hr.u200) (pe_tupC (pa_cons (pv 8) (pa_cons (pe_callTy (show CallR _ _ (rTupC K) from call_tupC) (by rfl) m_tuple (by decide +kernel) (pa_cons (pv 6) pa_nil)) pa_nil))) (pv 4) rfl) (pss_one (ps_expr (pe_bm PySem.F.plainAttrs_list PySem.F.slot_list_append PySem.F.type_list_append mt_append (pv 4) (pa_cons (pe_tupC (pa_cons (pv 8) (pa_cons (pe_callTy (show CallR _ _ (rTupC K) from call_tupC) (by rfl) m_tuple (by decide +kernel) (pa_cons (pv 6) pa_nil)) pa_nil))) pa_nil)))) pss_nil)))))))
      (pss_one (ps_ret (pv 4))))), ?r⟩)
  case len =>
    obtain ⟨l, ws, B, ds, m, rfl, _, _, _, is, ⟨_, ms, n, k, rfl, _⟩, _⟩ := h
    show ws.length + 1 = 4
    rw [is.length]; rfl
  case r =>
    refine body_H h fun ad ds m hp hl => ?_
    obtain ⟨hm, ms, n, k, rfl, hM, h2, h16, hk⟩ := hp
    walk_at "body"
    refine s_seq (s_own0 ?_)
    walk_at "ro"
    refine s_seq (s_forRw ?_)
    walk_at "ev"
    have hnum : ∀ S : List Spot, S.length ≤ 20 → (∀ p ∈ S, PlP ms n p.1 p.2) → Num 4 (1701 * S.length) (.lst (S.map dspot)) := fun S hS hp => by
      have := Num.lst (k := 3) (w := 1700) (xs := S.map dspot) fun x hx => by
        obtain ⟨p, hp2, rfl⟩ := List.mem_map.mp hx
        exact (hp p hp2).num hM (by omega)
      rwa [List.length_map] at this
    refine ⟨k, 200, [4, 5, 6, 7, 8, 9, 10], fun i xs => ∃ S x5 x6 x7 x8 x9 x10, xs = [some (.own (S.map dspot)), x5, x6, x7, x8, x9, x10] ∧ S.length ≤ i ∧ S.Nodup ∧ (0 < i → S ≠ []) ∧ ∀ p ∈ S, PlP ms n p.1 p.2, [_, _, _, _, _, _, _], by omega, by omega, rfl, rfl,
      ⟨[], _, _, _, _, _, _, rfl, Nat.le_refl _, .nil, (fun h => absurd h (by omega)), fun _ z => (nomatch z)⟩, fun i c xs hi hc hx hR => ?_, fun c xs hc hx hR => ?_⟩
    · obtain ⟨S, x5, x6, x7, x8, x9, x10, rfl, hSl, hSn, hS0, hSp⟩ := hR
      have hN := hnum S (by omega) hSp
      walk_at "ro"
      walk_at "ev"
      refine g_take (by omega) (by omega) (by omega) fun m2 a q2 ha => ?_
      walk_at "ev"
      refine v_repT (by omega) (by omega) (by simp) ?_
      rw [List.flatten_replicate_singleton, Int.toNat_natCast, ← List.map_replicate (f := fun t => D.tup (dints t))]
      refine a_nil ⟨_, _, rfl, ?_⟩
      have h0 : PlP ms n a (List.replicate n (List.replicate ms.length 0)) :=
        ⟨ha, by simp, fun t ht => by rw [List.eq_of_mem_replicate ht]; exact rep_tie hM, by rw [List.getElem?_replicate, if_pos ha]⟩
      walk_at "ro"
      refine s_seq (s_imp (Nx := fun n2 ρ2 => n2 ≤ c + 4 ∧ ∃ p : Spot, PlP ms n p.1 p.2 ∧
        ρ2 = [some .hand, some (.dat (.tup (dints ms))), some (.dat (.int n)), some (.dat (.int k)), some (.own (S.map dspot)), some (.dat (.int i)), x6, x7, some (.dat (.int p.1)), some (.dat (dsays p.2)), x10]) ?_ (fun m4 ρ4 q4 => ?_) (fun _ _ q => q))
      · refine s_if (t_and (t_ownNe rfl hN (by omega) ?_))
        cases S with
        | nil =>
          rw [List.map_nil, List.isEmpty_nil, Bool.not_true, if_neg Bool.false_ne_true, if_neg Bool.false_ne_true]
          exact s_next ⟨by omega, (a, _), h0, rfl⟩
        | cons p0 S' =>
          rw [List.map_cons, List.isEmpty_cons, Bool.not_false, if_pos rfl]
          walk_at "ev"
          refine g_take (n := 2) (by omega) (by omega) (by omega) fun m4 b2 q4 hb2 => ?_
          walk_at "ev"
          by_cases hz : (b2 : Int) = 0
          · rw [decide_eq_true hz, if_pos rfl]
            refine s_unp2 ?_
            refine e_ofOwn (i := 0) (j := 4) rfl rfl (by omega) (by simp) (by rw [List.length_cons, List.length_map]; simp at hSl; omega) fun m5 d q5 hd => ?_
            obtain ⟨p, hp, rfl⟩ := List.mem_map.mp (show d ∈ (p0 :: S').map dspot from hd)
            exact ⟨_, _, rfl, by omega, p, hSp _ hp, rfl⟩
          · rw [decide_eq_false hz, if_neg Bool.false_ne_true]
            exact s_next ⟨by omega, (a, _), h0, rfl⟩
      · obtain ⟨h4, p, hp, rfl⟩ := q4
        refine s_seq (s_ownQ ?_)
        walk_at "ev"
        walk_at "ro"
        refine s_seq (s_forRw ?_)
        walk_at "ev"
        refine g_of (by omega) rfl (by simp) (by simp) fun m5 d h5 hd => ?_
        obtain ⟨z, rfl, hz⟩ : ∃ z : Nat, d = .int z ∧ z ≤ 16 := by
          simp only [List.mem_cons, List.not_mem_nil, or_false] at hd
          rcases hd with rfl | rfl | rfl | rfl
          · exact ⟨0, rfl, by omega⟩
          · exact ⟨1, rfl, by omega⟩
          · exact ⟨2, rfl, by omega⟩
          · exact ⟨n, rfl, h16⟩
        refine a_nil ⟨_, rfl, z, 4, [6, 7, 10], fun t xs => ∃ V x7 x10, xs = [some (.own (V.map fun t => D.tup (dints t))), x7, x10] ∧ PlP ms n p.1 V, [_, _, _], rfl, by omega, rfl, rfl, ⟨p.2, _, _, rfl, hp⟩, fun t n2 xs ht hn2 hx2 hR2 => ?_, fun n2 xs hn2 hx2 hR2 => ?_⟩
        · obtain ⟨V, x7, x10, rfl, hV⟩ := hR2
          walk_at "ro"
          walk_at "ev"
          refine g_take (by omega) (by omega) (by omega) fun m6 to q6 hto => ?_
          walk_at "ro"
          walk_at "ev"
          by_cases hc : (to : Int) = (p.1 : Int)
          · rw [decide_eq_true hc]
            walk_at "ev"
            exact ⟨by omega, [_, _, _], rfl, rfl, V, _, _, rfl, hV⟩
          · rw [decide_eq_false hc]
            walk_at "ev"
            refine s_setOwn (i := 6) rfl ?_
            walk_at "ev"
            refine g_knot (by omega) hM fun m7 t q7 ht => ?_
            walk_at "ev"
            refine ⟨by rw [List.length_map, hV.len]; exact hto, by omega, [_, _, _], rfl, rfl, V.set to t, _, _, by rw [List.map_set], set_pl35 hV ht (fun e => hc (congrArg (fun n : Nat => (n : Int)) e))⟩
        · obtain ⟨V, x7, x10, rfl, hV⟩ := hR2
          walk_at "ro"
          refine s_next ?_
          have hpl : PlP ms n (p.1, V).1 (p.1, V).2 := hV
          have hpn := hpl.num hM (by omega)
          refine s_if (t_test (e_notinOwnD (i := 4) rfl ⟨?_, ?_⟩ ?_))
          · exact (hN.eqs (by omega)).plain
          · exact (hN.eqs (by omega)).shaped
          repeat (first | with_reducible refine e_tupOwn (i := 6) (by with_unfolding_all rfl) ?_ | walk_at "ev1")
          have hq : D.tup [D.int (p.1 : Nat), D.tup (V.map fun t => D.tup (dints t))] = dspot (p.1, V) := rfl
          rw [hq]
          refine ⟨⟨?_, ?_⟩, _, rfl, ?_⟩
          · exact (hpn.eqs (by omega)).plain
          · exact (hpn.eqs (by omega)).shaped
          rw [spot_in14 hM h16 hSp hpl]
          cases hc : S.contains (p.1, V) with
          | true =>
            rw [Bool.not_true, if_neg Bool.false_ne_true]
            refine s_next ⟨by omega, [_, _, _, _, _, _, _], rfl, rfl, S, _, _, _, _, _, _, rfl, by omega, hSn, (fun _ e => by rw [e] at hc; simp at hc), hSp⟩
          | false =>
            rw [Bool.not_false, if_pos rfl]
            have hn2 : (p.1, V) ∉ S := fun z => by rw [List.contains_eq_mem, decide_eq_true z] at hc; cases hc
            refine s_app (i := 4) rfl (by rw [List.length_map]; omega) ?_
            repeat (first | with_reducible refine e_tupOwn (i := 6) (by with_unfolding_all rfl) ?_ | walk_at "ev1")
            refine ⟨by omega, [_, _, _, _, _, _, _], rfl, rfl, S ++ [(p.1, V)], _, _, _, _, _, _, by rw [List.map_append]; rfl, by rw [List.length_append]; simp; omega, ?_, (fun _ e => by simp at e), fun q hq => ?_⟩
            · exact List.nodup_append.mpr ⟨hSn, List.pairwise_singleton _ _, fun x hx y hy e => hn2 (by rw [List.mem_singleton.mp hy] at e; exact e ▸ hx)⟩
            · rcases List.mem_append.mp hq with z | z
              · exact hSp q z
              · rw [List.mem_singleton.mp z]; exact hV
    · obtain ⟨S, x5, x6, x7, x8, x9, x10, rfl, hSl, hSn, hS0, hSp⟩ := hR
      walk_at "ro"
      refine s_retOwn8 (i := 4) rfl ?_
      exact ⟨by omega, ms, n, k, S, rfl, rfl, by omega, hSn, hS0, hSp⟩

theorem ok__law_ring {f : Addr} {fd : FuncData} (F : Fun K "_law_ring" "_law_ring" s__law_ring f fd)
    {f__law_led : Addr} {fd__law_led : FuncData} (F__law_led : Fun K "_law_led" "_law_led" s__law_led f__law_led fd__law_led)
    (G__law_led : FnOk P w K mg base CX0 2 f__law_led fd__law_led ["_law_scale_here", "_law_turn", "_law_spot_here"] (SpP K preLe fLe))
    (g__law_led : mg "_law_led" = some (.ref f__law_led)) :
    FnOk P w K mg base CX0 3 f fd ["_law_scale_here", "_law_turn", "_law_spot_here"] (SpP K preRi28 fRi28) := by
  refine F.ok sc__law_ring (fun vs H Q E h => ?len) (fun cdv A outer s H vs Q E hr h => ⟨_, (pss_cons (ps_par (i := 3) (j := 4) rfl sc__law_ring.nd rfl rfl (by decide) rfl rfl (pa_cons (pe_lst (pa_cons (pv 2) pa_nil)) (pa_cons (pe_call G__law_led (hr.mono (by decide)) (by rfl) g__law_led F__law_led.kp (bi__law_led F__law_led) .nil pass0 (pa_cons (pv 0) (pa_cons (pv 1) (pa_cons (pv 2) pa_nil)))) pa_nil)) (by rfl))
      (pss_cons (ps_while PassesOwn.never (pt_cmpR (show OpR _ _ (rNeD K) from op_neD hr.units) (pv 4) (pv 2) (nomark _)) (pss_cons (ps_expr (pe_bm PySem.F.plainAttrs_list PySem.F.slot_list_append PySem.F.type_list_append mt_append (pv 3) (pa_cons (pv 4) pa_nil)))
      (pss_one (ps_set (i := 4) sc__law_ring.nd rfl (by first | exact Or.inl rfl | exact Or.inr rfl) (pe_call G__law_led (hr.mono (by decide)) (by rfl) g__law_led F__law_led.kp (bi__law_led F__law_led) .nil pass0 (pa_cons (pv 0) (pa_cons (pv 1) (pa_cons (pv 4) pa_nil))))))))
      (pss_one (ps_ret (pv 3))))), ?r⟩)
  case len =>
    obtain ⟨B, ds, _, is, ⟨ms, hs, t, p, rfl, _⟩, _⟩ := h
    exact is.length
  case r =>
    refine body_P h fun ds hp hl => ?_
    obtain ⟨ms, hs, t, p, rfl, hM, h16, ht, hp⟩ := hp
    have htl := ht.lead.len
    rw [fRi28_is, htl]
    obtain ⟨s1, s2, s3⟩ := perP_spec28 hM ht hp
    have hob := ord_bd28 hM ht h16
    have ipl := fun k => itP_pl28 hM ht hp k
    have inum : ∀ k, Num 3 1700 (dspot (itP28 ms t k p)) := fun k => num_place hM (by omega) (ipl k).lt (ipl k).len (ipl k).tie
    have dsp : ∀ x y : Spot, dspot x = dspot y → x = y := fun x y e => by
      have := congrArg uspot e
      rwa [uspot_dspot, uspot_dspot] at this
    walk_at "body"
    refine s_seq (s_parOwnLT (i := 3) (j := 4) ?_)
    walk_at "ev"
    refine ⟨⟨ms, hs, t, p, rfl, hM, h16, ht, hp⟩, ?_⟩
    rw [fLe_is]
    walk_at "ro"
    refine s_seq (s_while (q0 := perP28 ms hs.length t p) (I := fun q n ρ' => n = 0 ∧ ∃ j : Nat, j + q = perP28 ms hs.length t p ∧
      ρ' = [some (.dat (.tup (dints ms))), some (.dat (dturn t)), some (.dat (dspot p)), some (.own ((List.range (j + 1)).map fun k => dspot (itP28 ms t k p))), some (.dat (dspot (itP28 ms t (j + 1) p)))]) ⟨rfl, 0, Nat.zero_add _, rfl⟩ ?_)
    rintro q n ρ' ⟨rfl, j, hj, rfl⟩
    walk_at "ev"
    by_cases e : itP28 ms t (j + 1) p = p
    · rw [e]
      refine v_neDs (inum 0) (by omega) ⟨_, rfl, ?_⟩
      rw [if_neg Bool.false_ne_true]
      have hjp : j = perP28 ms hs.length t p := by
        rcases Nat.lt_or_ge j (perP28 ms hs.length t p) with z | z
        · exact absurd e (s3 j z)
        · omega
      refine s_freeze (i := 3) rfl ?_
      walk_at "ro"
      refine s_ret (e_var rfl ?_)
      rw [hjp]
      unfold ringP28
      rw [List.map_map]
      rfl
    · refine v_neDo (inum (j + 1)) (inum 0) (by omega) (by omega) (fun z => e (dsp _ _ z)) ⟨_, rfl, ?_⟩
      rw [if_pos rfl]
      have hjp : j < perP28 ms hs.length t p := by
        rcases Nat.lt_or_ge j (perP28 ms hs.length t p) with z | z
        · exact z
        · exact absurd (by rw [show j = perP28 ms hs.length t p by omega]; exact s2) e
      refine s_seq (s_app (i := 3) rfl (by rw [List.length_map, List.length_range]; omega) ?_)
      walk_at "ev"
      walk_at "ro"
      walk_at "ev"
      refine ⟨⟨ms, hs, t, _, rfl, hM, h16, ht, ipl (j + 1)⟩, ?_⟩
      rw [fLe_is]
      refine ⟨q - 1, by omega, rfl, j + 1, by omega, ?_⟩
      rw [List.range_succ (n := j + 1), List.map_append]
      rfl

theorem ok__law_long {f : Addr} {fd : FuncData} (F : Fun K "_law_long" "_law_long" s__law_long f fd)
    {f__law_take : Addr} {fd__law_take : FuncData} (F__law_take : Fun K "_law_take" "_law_take" s__law_take f__law_take fd__law_take)
    (G__law_take : FnOk P w K mg base CX0 1 f__law_take fd__law_take ["_law_hand_here", "_law_many"] (SpH K preTake psiTake))
    (g__law_take : mg "_law_take" = some (.ref f__law_take))
    {f__law_mixed : Addr} {fd__law_mixed : FuncData} (F__law_mixed : Fun K "_law_mixed" "_law_mixed" s__law_mixed f__law_mixed fd__law_mixed)
    (G__law_mixed : FnOk P w K mg base CX0 2 f__law_mixed fd__law_mixed ["_law_hand_here", "_law_some"] (SpF K preMix psiMix))
    (g__law_mixed : mg "_law_mixed" = some (.ref f__law_mixed))
    {f__law_still : Addr} {fd__law_still : FuncData} (F__law_still : Fun K "_law_still" "_law_still" s__law_still f__law_still fd__law_still)
    (G__law_still : FnOk P w K mg base CX0 1 f__law_still fd__law_still ["_law_scale_here", "_law_size"] (SpP K preLs fLs))
    (g__law_still : mg "_law_still" = some (.ref f__law_still))
    (m_enumerate : mg "enumerate" = none)
    (m_len : mg "len" = none)
    (m_list : mg "list" = none)
    (m_max : mg "max" = none)
    (m_min : mg "min" = none)
    (m_range : mg "range" = none)
    (m_tuple : mg "tuple" = none) :
    FnOk P w K mg base CX0 3 f fd ["_law_hand_here"] (SpH K preLg29 psiLg29) := by
  refine F.ok sc__law_long (fun vs H Q E h => ?len) (fun cdv A outer s H vs Q E hr h => ⟨_, (pss_cons (ps_par (i := 4) (j := 5) rfl sc__law_long.nd rfl rfl (by decide) rfl rfl (pa_cons (pe_call G__law_mixed (hr.mono (by decide)) (by rfl) g__law_mixed F__law_mixed.kp (bi__law_mixed F__law_mixed) .nil pass0 (pa_cons (pv 0) (pa_cons (pe_listRg rfl (by rfl) m_list (prg_1 (by rfl) m_range pe_int)) pa_nil))) (pa_cons (pe_op op_rep (pe_lst (pa_cons pe_int pa_nil)) pe_int) pa_nil)) (by rfl))
      (pss_cons (ps_for PassesOwn.never rfl (pi_tup (pe_tupC (pa_cons (pe_slice (show SlR _ (rSlL K) from sl_list) (pv 4) po_none (po_some pe_int)) (pa_cons (pe_slice (show SlR _ (rSlL K) from sl_list) (pv 4) (po_some pe_int) (po_some pe_int)) (pa_cons (pe_slice (show SlR _ (rSlL K) from sl_list) (pv 4) (po_some pe_int) po_none) pa_nil))))) (pg_name (i := 1) sc__law_long.nd rfl (by first | exact Or.inl rfl | exact Or.inr rfl)) (pss_one (ps_for PassesOwn.never rfl (pi_enL (by rfl) m_enumerate (pa_cons (pv 1) pa_nil)) (pg_tup rfl (pgs_cons (pg_name (i := 6) sc__law_long.nd rfl (by first | exact Or.inl rfl | exact Or.inr rfl)) (pgs_cons (pg_name (i := 7) sc__law_long.nd rfl (by first | exact Or.inl rfl | exact Or.inr rfl)) pgs_nil))) (pss_one (ps_asg (pe_ix (show IxR _ (rIxL K) from ix_list) (pv 1) (pe_op op_mod (pe_op op_add (pv 6) pe_int) (pe_callB (show CallR _ _ (rLenQ K) from call_len_seq) (by rfl) m_len (by decide +kernel) (pa_cons (pv 1) pa_nil))) (fun _ _ => rfl)) (pg_sub (pv 5) (pv 7) set_list))))))
      (pss_cons (ps_setLc (i := 2) (own := [("_law_line", 8)]) (g := gName 8) (tt := tYes) rfl sc__law_long.nd rfl rfl (sw_true rfl rfl rfl (by decide +kernel)) (pi_tup (pe_ix (show IxR _ (rIxT K) from ix_tup) (pe_call G__law_still (hr.mono (by decide)) (by rfl) g__law_still F__law_still.kp (bi__law_still F__law_still) .nil pass0 (pa_cons (pe_tupC (pa_cons pe_int (pa_cons pe_int (pa_cons pe_int pa_nil)))) (pa_cons pe_int pa_nil))) pe_int (fun _ _ => rfl))) (blkOk_by (own := [("_law_line", 8)]) (N := ["_law_hand_here", "_law_path", "_law_grid_here", "_law_other", "_law_order", "_law_leads_here", "_law_spot_here", "_law_to", "_law_line", "_law_high", "_law_low"]) (sc := defScope s__law_long) (by decide +kernel)) (fun _ _ _ _ _ => (pg_name (i := 8) sc__law_long.nd rfl (by first | exact Or.inl rfl | exact Or.inr rfl))) (fun _ _ _ _ _ => pts_nil) (fun _ _ _ _ _ => (pe_callTy (show CallR _ _ (rListQ K) from call_list_of) (by rfl) m_list (by decide +kernel) (pa_cons (pv 8) pa_nil))))
      (pss_cons (ps_for PassesOwn.never rfl (pi_tup (pe_tupC (pa_cons (pe_ix (show IxR _ (rIxL K) from ix_list) (pv 4) pe_int (fun _ _ => rfl)) (pa_cons (pe_ix (show IxR _ (rIxL K) from ix_list) (pv 4) pe_int (fun _ _ => rfl)) pa_nil)))) (pg_name (i := 3) sc__law_long.nd rfl (by first | exact Or.inl rfl | exact Or.inr rfl)) (pss_cons (ps_par (i := 9) (j := 10) rfl sc__law_long.nd rfl rfl (by decide) rfl rfl (pa_cons (pe_callB (call_max2 rfl) (by rfl) m_max (by decide +kernel) (pa_cons (pe_ix (show IxR _ (rIxL K) from ix_list) (pv 4) pe_int (fun _ _ => rfl)) (pa_cons (pv 3) pa_nil))) (pa_cons (pe_callB (call_min2 rfl) (by rfl) m_min (by decide +kernel) (pa_cons (pe_ix (show IxR _ (rIxL K) from ix_list) (pv 4) pe_int (fun _ _ => rfl)) (pa_cons (pv 3) pa_nil))) pa_nil)) (by rfl))
      (pss_one (ps_asg (pe_tupC (pa_cons (pe_op op_add pe_int (pe_call G__law_take (hr.mono (by decide)) (by rfl) g__law_take F__law_take.kp (bi__law_take F__law_take) .nil pass0 (pa_cons (pv 0) (pa_cons pe_int pa_nil)))) (pa_cons (pe_op op_add pe_int (pe_call G__law_take (hr.mono (by decide)) (by rfl) g__law_take F__law_take.kp (bi__law_take F__law_take) .nil pass0 (pa_cons (pv 0) (pa_cons pe_int pa_nil)))) (pa_cons pe_int pa_nil)))) (pg_sub (pe_ix (show IxR _ (rIxL K) from ix_list) (pv 2) (pv 9) (fun _ _ => rfl)) (pv 10) set_list)))))
      (pss_one (ps_ret (pe_tupC (pa_cons (pe_tupC (pa_cons (pe_callTy (show CallR _ _ (rTupC K) from call_tupC) (by rfl) m_tuple (by decide +kernel) (pa_cons (pv 5) pa_nil)) (pa_cons (pe_callTy (show CallR _ _ (rTupC K) from call_tupC) (by rfl) m_tuple (by decide +kernel) (pa_cons (pe_lc (own := [("_law_line", 8)]) (g := gName 8) (tt := tYes) rfl sc__law_long.nd (pi_list (pv 2)) (blkOk_by (own := [("_law_line", 8)]) (N := ["_law_hand_here", "_law_path", "_law_grid_here", "_law_other", "_law_order", "_law_leads_here", "_law_spot_here", "_law_to", "_law_line", "_law_high", "_law_low"]) (sc := defScope s__law_long) (by decide +kernel)) (fun _ _ _ _ _ => (pg_name (i := 8) sc__law_long.nd rfl (by first | exact Or.inl rfl | exact Or.inr rfl))) (fun _ _ _ _ _ => pts_nil) (fun _ _ _ _ _ => (pe_callTy (show CallR _ _ (rTupC K) from call_tupC) (by rfl) m_tuple (by decide +kernel) (pa_cons (pv 8) pa_nil)))) pa_nil)) pa_nil))) (pa_cons (pv 4) pa_nil))))))))), ?r⟩)
  case len =>
    obtain ⟨l, ws, B, ds, m, rfl, _, _, _, is, ⟨_, rfl⟩, _⟩ := h
    show ws.length + 1 = 1
    rw [is.length]; rfl
  case r =>
    refine body_H h fun ad ds m hp hl => ?_
    obtain ⟨hm, rfl⟩ := hp
    walk_at "body"
    refine s_seq (s_parFF (by decide) (Ψ1 := fun n es => n ≤ m + 200 ∧ ∃ o, es = dnats o ∧ o.Perm (List.range 12)) (f_call rfl ?_) fun m1 es q => ?_)
    · walk_at "ev"
      refine ⟨⟨by omega, .lst (dnats (List.range 12)), dnats (List.range 12), rfl, rfl, by simp, fun x hx => ?_⟩, fun m2 es q => ?_⟩
      · obtain ⟨i, hi, rfl⟩ := List.mem_map.mp hx
        have := List.mem_range.mp hi
        exact .inl ((num_int (by omega) (by omega)).up (by omega) (by omega))
      obtain ⟨hm2, c, xs, e, hc, hp⟩ := q
      cases (List.cons.inj e).1
      cases hc
      exact ⟨hm2, perm_nats27 hp⟩
    obtain ⟨hm1, o, rfl, ho⟩ := q
    refine f_rep ?_
    walk_at "ev"
    rw [show (List.replicate 12 [D.int 0]).flatten = dnats (List.replicate 12 0) from rfl]
    walk_at "ro"
    refine s_freeze (i := 4) rfl ?_
    walk_at "ro"
    have hol : o.length = 12 := by rw [ho.length_eq, List.length_range]
    have hmem : ∀ x ∈ o, x < 12 := fun x hx => List.mem_range.mp (ho.mem_iff.mp hx)
    have get : ∀ k, k < 12 → (dnats o)[k]? = some (.int (o.getD k 0 : Nat)) := fun k hk => dnats_get (by
      rw [List.getD_eq_getElem?_getD, List.getElem?_eq_getElem (by omega)]; rfl)
    have getl : ∀ k, k < 12 → o.getD k 0 < 12 := fun k hk => by
      rw [List.getD_eq_getElem?_getD, List.getElem?_eq_getElem (by omega)]
      exact hmem _ (List.getElem_mem _)
    have getn : ∀ j k, j < 12 → k < 12 → j ≠ k → o.getD j 0 ≠ o.getD k 0 := fun j k hj hk hne e => by
      rw [List.getD_eq_getElem?_getD, List.getD_eq_getElem?_getD, List.getElem?_eq_getElem (by omega), List.getElem?_eq_getElem (by omega)] at e
      exact hne ((List.getElem?_inj (by omega) (ho.nodup_iff.mpr List.nodup_range)).mp (by rw [List.getElem?_eq_getElem (by omega), List.getElem?_eq_getElem (by omega)]; exact congrArg some e))
    have c1 : Wt.cutD (dnats o) none (some 3) = dnats (o.take 3) := by rw [show (3 : Int) = ((3 : Nat) : Int) from rfl, cut_take, ← List.map_take]
    have c3 : Wt.cutD (dnats o) (some 7) none = dnats (o.drop 7) := by rw [show (7 : Int) = ((7 : Nat) : Int) from rfl, cut_drop, ← List.map_drop]
    have c2 : Wt.cutD (dnats o) (some 3) (some 7) = dnats ((o.drop 3).take 4) := by
      unfold Wt.cutD
      rw [show (3 : Int) = ((3 : Nat) : Int) from rfl, show (7 : Int) = ((7 : Nat) : Int) from rfl, HT.sIx_nat, HT.sIx_nat, List.length_map, hol, ← List.map_drop, ← List.map_take]
      rfl
    obtain ⟨ps, eps⟩ : ∃ ps, ps = [o.take 3, (o.drop 3).take 4, o.drop 7] := ⟨_, rfl⟩
    have hpl : ∀ p ∈ ps, 0 < p.length ∧ ∀ x ∈ p, x < 12 := fun p hp => by
      rw [eps] at hp
      simp only [List.mem_cons, List.not_mem_nil, or_false] at hp
      rcases hp with rfl | rfl | rfl
      · exact ⟨by rw [List.length_take]; omega, fun x hx => hmem x (List.mem_of_mem_take hx)⟩
      · exact ⟨by rw [List.length_take, List.length_drop]; omega, fun x hx => hmem x (List.mem_of_mem_drop (List.mem_of_mem_take hx))⟩
      · exact ⟨by rw [List.length_drop]; omega, fun x hx => hmem x (List.mem_of_mem_drop hx)⟩
    refine s_seq (s_forTw ?_)
    walk_at "ev"
    rw [c1, c2, c3, show [D.lst (dnats (o.take 3)), D.lst (dnats ((o.drop 3).take 4)), D.lst (dnats (o.drop 7))] = ps.map fun p => D.lst (dnats p) from by rw [eps]; rfl]
    refine ⟨0, [1, 5, 6, 7], fun c xs => ∃ x1 x6 x7 : Option Sl, xs = [x1, some (.own (dnats (st29 (List.replicate 12 0) ps c))), x6, x7], [_, _, _, _], rfl, rfl, ⟨none, none, none, rfl⟩, fun c n d xs hc hn hx hI => ?_, fun n xs hn hx hI => ?_⟩
    · obtain ⟨x1, x6, x7, rfl⟩ := hI
      obtain ⟨p, hp, rfl⟩ : ∃ p, ps[c]? = some p ∧ d = .lst (dnats p) := by
        rw [List.getElem?_map, Option.map_eq_some_iff] at hc
        obtain ⟨p, h1, h2⟩ := hc
        exact ⟨p, h1, h2.symm⟩
      obtain ⟨hp0, hp1⟩ := hpl p (List.mem_of_getElem? hp)
      obtain ⟨L0, eL0⟩ : ∃ L0, L0 = st29 (List.replicate 12 0) ps c := ⟨_, rfl⟩
      have hL0 : L0.length = 12 := by rw [eL0, st29_len]; simp
      rw [← eL0]
      walk_at "ro"
      refine s_forELw ?_
      walk_at "ev"
      refine ⟨0, [5, 6, 7], fun c xs => ∃ y10 y11 : Option Sl, xs = [some (.own (dnats (cyc27 L0 p c))), y10, y11], [_, _, _], rfl, rfl, ⟨x6, x7, rfl⟩, fun c n2 e xs he hn2 hx hI => ?_, fun n2 xs hn2 hx hI => ?_⟩
      · obtain ⟨y10, y11, rfl⟩ := hI
        obtain ⟨z, hz, rfl⟩ : ∃ z : Nat, p[c]? = some z ∧ e = .int z := by
          rw [List.getElem?_map, Option.map_eq_some_iff] at he
          obtain ⟨z, h1, h2⟩ := he
          exact ⟨z, h1, h2.symm⟩
        have hcl := (List.getElem?_eq_some_iff.mp hz).1
        have hzl : z < 12 := hp1 z (List.mem_of_getElem? hz)
        have hcm := Nat.mod_lt (c + 1) hp0
        have hgn : (dnats p)[(c + 1) % p.length]? = some (.int (p.getD ((c + 1) % p.length) 0 : Nat)) := dnats_get (by
          rw [List.getD_eq_getElem?_getD, List.getElem?_eq_getElem hcm]; rfl)
        have e3 : ((c : Nat) : Int) + 1 = ((c + 1 : Nat) : Int) := by omega
        walk_at "ro"
        refine s_setOwn (i := 5) rfl ?_
        walk_at "ev"
        rw [List.length_map, e3]
        refine v_I (show (0 : Int) < ((p.length : Nat) : Int) by omega) ?_
        rw [← Int.natCast_emod]
        walk_at "ev"
        refine ⟨by rw [List.length_map, cyc27_len, hL0]; exact hzl, by omega, [_, _, _], rfl, rfl, some (.dat (.int (c : Nat))), some (.dat (.int (z : Nat))), ?_⟩
        have ez : p.getD c 0 = z := by rw [List.getD_eq_getElem?_getD, hz]; rfl
        rw [cyc27, ez, show dnats ((cyc27 L0 p c).set z (p.getD ((c + 1) % p.length) 0)) = (dnats (cyc27 L0 p c)).set z (.int (p.getD ((c + 1) % p.length) 0 : Nat)) from List.map_set]
      · obtain ⟨y10, y11, rfl⟩ := hI
        rw [List.length_map] at *
        walk_at "ro"
        exact ⟨by omega, [_, _, _, _], rfl, rfl, _, _, _, by rw [st29_succ _ _ hp, ← eL0]⟩
    · obtain ⟨x1, x6, x7, rfl⟩ := hI
      rw [List.length_map, show ps.length = 3 by rw [eps]; rfl, show st29 (List.replicate 12 0) ps 3 = chain29 (List.range 12) o from by rw [← chain29_any ho (L := List.replicate 12 0) (by simp) (by simp), eps]; rfl]
      walk_at "ro"
      have hst := still_turn (hs := List.replicate 12 0) ms29_q.1
      have hr12 : (List.replicate 12 (0 : Int)).length = 12 := by simp
      rw [hr12] at hst
      refine s_next ?_
      refine s_mkM (i := 2) (j := 8) rfl ?_
      walk_at "ev"
      refine ⟨⟨ms29, 12, rfl, ms29_q.1, by omega⟩, ?_⟩
      rw [show fLs [D.tup [D.int 5, D.int 3, D.int 2], D.int 12] = dturn (stillT ms29 12) from fLs_is ms29 12]
      walk_at "ev"
      refine ⟨rowsD27 (stillT ms29 12).2, (rowsD27_tab _).symm, by rw [List.length_map, hst.tab.1, hr12]; omega, fun bs => ?_⟩
      refine m_forT (by decide) ?_
      have g0 := get 0 (by omega)
      have g3 := get 3 (by omega)
      have g7 := get 7 (by omega)
      obtain ⟨o0, eo0⟩ : ∃ o0, o0 = o.getD 0 0 := ⟨_, rfl⟩
      obtain ⟨ws, ews⟩ : ∃ ws, ws = [o.getD 3 0, o.getD 7 0] := ⟨_, rfl⟩
      have hws : ∀ w ∈ ws, w < 12 ∧ w ≠ o0 := fun w hw => by
        rw [ews] at hw
        simp only [List.mem_cons, List.not_mem_nil, or_false] at hw
        rcases hw with rfl | rfl
        · exact ⟨getl 3 (by omega), by rw [eo0]; exact getn 3 0 (by omega) (by omega) (by omega)⟩
        · exact ⟨getl 7 (by omega), by rw [eo0]; exact getn 7 0 (by omega) (by omega) (by omega)⟩
      have ho0 : o0 < 12 := by rw [eo0]; exact getl 0 (by omega)
      rw [← eo0] at g0
      walk_at "ev"
      refine v_ixL (d := .int (o.getD 3 0 : Nat)) (by decide) g3 ?_
      walk_at "ev"
      refine v_ixL (d := .int (o.getD 7 0 : Nat)) (by decide) g7 ?_
      walk_at "ev"
      rw [show [D.int ((o.getD 3 0 : Nat) : Int), D.int ((o.getD 7 0 : Nat) : Int)] = dnats ws from by rw [ews]; rfl]
      refine ⟨fun a n ρ' rows' => n ≤ m1 + 2 * a ∧ ∃ (zs : List (List Int)) (T : List (List (List Int))) (y3 y9 y10 : Option Sl), zs.length = a ∧ (∀ z ∈ zs, tieB29 z) ∧ T = (zs.zip ws).foldl (fun T p => put29 T o0 p.2 p.1) (constT [0, 0, 0] 12) ∧ TabP ms29 12 T ∧ rows' = rowsD27 T ∧
        ρ' = [some .hand, x1, none, y3, some (.dat (.lst (dnats o))), some (.own (dnats (chain29 (List.range 12) o))), x6, x7, none, y9, y10], ⟨by omega, [], _, none, none, none, rfl, (fun z hz => absurd hz List.not_mem_nil), rfl, const_tab (ms := ms29) tie0_29 12, rfl, rfl⟩, fun a n ρ' rows' d hd hI => ?_, fun n ρ' rows' hI => ?_⟩
      · obtain ⟨hn2, zs, T, y3, y9, y10, hzl, hzs, eT, hT, rfl, rfl⟩ := hI
        obtain ⟨w, hw, rfl⟩ : ∃ w, ws[a]? = some w ∧ d = .int (w : Nat) := by
          rw [List.getElem?_map, Option.map_eq_some_iff] at hd
          obtain ⟨w, h1, h2⟩ := hd
          exact ⟨w, h1, h2.symm⟩
        obtain ⟨hw12, hwo⟩ := hws w (List.mem_of_getElem? hw)
        have ha2 : a < 2 := by have := (List.getElem?_eq_some_iff.mp hw).1; rw [ews] at this; exact this
        refine m_seq (m_lift ?_)
        walk_at "ro"
        walk_at "ev"
        refine v_ixL (d := .int (o0 : Nat)) (by decide) g0 ?_
        walk_at "ev"
        rw [show (if ((w : Nat) : Int) > ((o0 : Nat) : Int) then ((w : Nat) : Int) else ((o0 : Nat) : Int)) = ((max o0 w : Nat) : Int) from by split <;> omega]
        walk_at "ev"
        refine v_ixL (d := .int (o0 : Nat)) (by decide) g0 ?_
        walk_at "ev"
        rw [show (if ((w : Nat) : Int) < ((o0 : Nat) : Int) then ((w : Nat) : Int) else ((o0 : Nat) : Int)) = ((min o0 w : Nat) : Int) from by split <;> omega]
        walk_at "ev"
        refine ⟨[some .hand, x1, none, some (.dat (.int (w : Nat))), some (.dat (.lst (dnats o))), some (.own (dnats (chain29 (List.range 12) o))), x6, x7, none, some (.dat (.int ((max o0 w : Nat) : Int))), some (.dat (.int ((min o0 w : Nat) : Int)))], rfl, ?_⟩
        obtain ⟨row, hrow⟩ : ∃ row, T[max o0 w]? = some row := ⟨_, List.getElem?_eq_getElem (by rw [hT.1]; omega)⟩
        obtain ⟨hrl, hrt⟩ := hT.2 _ row hrow
        refine m_set2 (by show 2 < 11; omega) ?_
        walk_at "ro"
        walk_at "ev"
        refine g_take (n := 4) (by omega) (by omega) (by omega) fun m2 r2 hm2 hr2 => ?_
        walk_at "ev"
        refine g_take (n := 2) (by omega) (by omega) (by omega) fun m3 r3 hm3 hr3 => ?_
        walk_at "ev"
        obtain ⟨z, ez⟩ : ∃ z : List Int, z = [((1 + r2 : Nat) : Int), ((1 + r3 : Nat) : Int), 1] := ⟨_, rfl⟩
        have hzB : tieB29 z := ⟨r2, r3, hr2, hr3, ez⟩
        have hmm : max o0 w < 12 := by omega
        have e3 : (zs ++ [z]).zip ws = zs.zip ws ++ [(z, w)] := by
          have : ws.take (a + 1) = ws.take a ++ [w] := by rw [List.take_add_one, hw]; rfl
          have l1 : (zs ++ [z]).length = a + 1 := by rw [List.length_append, hzl]; rfl
          have z1 : ∀ (as : List (List Int)) (bs : List Nat), as.zip bs = as.zip (bs.take as.length) := fun as bs => by
            induction as generalizing bs with
            | nil => rfl
            | cons x as ih => cases bs with
              | nil => rfl
              | cons y bs => rw [List.length_cons, List.take_succ_cons, List.zip_cons_cons, List.zip_cons_cons, ← ih]
          rw [z1 (zs ++ [z]), l1, this, List.zip_append (by rw [List.length_take, hzl]; have := (List.getElem?_eq_some_iff.mp hw).1; omega), z1 zs ws, hzl]
          rfl
        refine ⟨row.map fun t => .tup (dints t), by rw [List.getElem?_map, hrow]; rfl, ?_⟩
        walk_at "ev"
        refine ⟨by rw [List.length_map, hrl]; omega, by omega, zs ++ [z], put29 T o0 w z, _, _, _, by rw [List.length_append, hzl]; rfl, fun z' hz' => ?_, ?_, tab_put29 hT (tieB29_tie hzB) hmm, ?_, rfl⟩
        · rcases List.mem_append.mp hz' with h | h
          · exact hzs z' h
          · rw [List.mem_singleton.mp h]; exact hzB
        · rw [e3, List.foldl_append, ← eT]
          rfl
        · rw [rows_put29 z hrow, ez]
          rfl
      · obtain ⟨hn2, zs, T, y3, y9, y10, hzl, hzs, eT, hT, rfl, rfl⟩ := hI
        refine ⟨by show 2 < 11; omega, ?_⟩
        walk_at "ro"
        refine s_ret ?_
        repeat (first | with_reducible refine e_tupOwn (i := 5) (by with_unfolding_all rfl) ?_ | walk_at "ev1")
        refine e_lcLf (j := 8) rfl ?_
        walk_at "ev"
        refine ⟨List D, rowsD27 T, D.lst, D.tup, rfl, by rw [List.length_map, hT.1]; omega, fun i y hy => ?_, ?_⟩
        · walk_at "ro"
          walk_at "ev"
          rfl
        walk_at "ev"
        rw [List.length_map, show ws.length = 2 by rw [ews]; rfl] at hzl
        refine ⟨by rw [List.length_map, show ws.length = 2 by rw [ews]; rfl] at hn2; omega, (chain29 (List.range 12) o, T), o, by rw [rowsD27_tab], ho, fun h => ⟨chain29_lead ho h, by rw [show (List.replicate 12 h).length = 12 by simp]; exact hT⟩, rfl, ?_⟩
        match zs, hzl with
        | [z1, z2], _ =>
          refine ⟨z1, z2, hzs z1 (by simp), hzs z2 (by simp), ?_⟩
          rw [eT, ews, ← eo0]
          rfl

theorem ok_are_hues {f : Addr} {fd : FuncData} (F : Fun K "are_hues" "are_hues" s_are_hues f fd)
    {f_is_within : Addr} {fd_is_within : FuncData} (F_is_within : Fun K "is_within" "is_within" s_is_within f_is_within fd_is_within)
    (G_is_within : FnOk P w K mg base CX0 2 f_is_within fd_is_within ["thing", "least", "most"] (SpP K preWithin fWithin))
    (g_is_within : mg "is_within" = some (.ref f_is_within))
    {f_is_hue : Addr} {fd_is_hue : FuncData} (F_is_hue : Fun K "is_hue" "is_hue" s_is_hue f_is_hue fd_is_hue)
    (G_is_hue : FnOk P w K mg base CX0 3 f_is_hue fd_is_hue ["thing"] (SpP K preWhole fHue))
    (g_is_hue : mg "is_hue" = some (.ref f_is_hue))
    {t_LEAST_STEMS : Tok} (c_LEAST_STEMS : mg "LEAST_STEMS" = some (.int 2 t_LEAST_STEMS))
    {t_MOST_STEMS : Tok} (c_MOST_STEMS : mg "MOST_STEMS" = some (.int 16 t_MOST_STEMS))
    (m_all : mg "all" = none)
    (m_isinstance : mg "isinstance" = none)
    (m_len : mg "len" = none)
    (m_tuple : mg "tuple" = none) :
    FnOk P w K mg base CX0 4 f fd ["thing"] (SpP K preMeas fHues) := by
  refine F.ok sc_are_hues (fun vs H Q E h => ?len) (fun cdv A outer s H vs Q E hr h => ⟨_, (pss_cons (ps_if (PW.pt (pw_or (pt_not (pt_val (pe_callB (show CallR _ _ (rIsi K) from call_isi) (by rfl) m_isinstance (by decide +kernel) (pa_cons (pv 0) (pa_cons (pe_bltn (v := .ty "tuple") (by rfl) m_tuple (by decide +kernel) rfl) pa_nil))))) (pw_or1 (pt_not (pt_val (pe_call G_is_within (hr.mono (by decide)) (by rfl) g_is_within F_is_within.kp (bi_is_within F_is_within) .nil pass0 (pa_cons (pe_callB (show CallR _ _ (rLenQ K) from call_len_seq) (by rfl) m_len (by decide +kernel) (pa_cons (pv 0) pa_nil)) (pa_cons (pe_glob (v := .int 2) (by rfl) c_LEAST_STEMS ⟨_, rfl⟩) (pa_cons (pe_glob (v := .int 16) (by rfl) c_MOST_STEMS ⟨_, rfl⟩) pa_nil))))))))) (pss_one (ps_ret pe_bl)) pss_nil)
      (pss_one (ps_ret (pe_callB (show CallR _ _ (rAll K) from cr_all rfl) (by rfl) m_all (by decide +kernel) (pa_cons (pe_lc (own := [("hue", 1)]) (g := gName 1) (tt := tYes) rfl sc_are_hues.nd (pi_tup (pv 0)) (blkOk_by (own := [("hue", 1)]) (N := ["thing", "hue"]) (sc := defScope s_are_hues) (by decide +kernel)) (fun _ _ _ _ _ => (pg_name (i := 1) sc_are_hues.nd rfl (by first | exact Or.inl rfl | exact Or.inr rfl))) (fun _ _ _ _ _ => pts_nil) (fun _ _ _ _ _ => (pe_call G_is_hue (hr.mono (by decide)) (by rfl) g_is_hue F_is_hue.kp (bi_is_hue F_is_hue) .nil pass0 (pa_cons (pv 1) pa_nil)))) pa_nil))))), ?r⟩)
  case len =>
    obtain ⟨B, ds, _, is, ⟨d, rfl, _⟩, _⟩ := h
    exact is.length
  case r =>
    refine body_P h fun ds hp hl => ?_
    obtain ⟨d, rfl, hpl⟩ := hp
    have ho : d.own = false := plain_own hpl
    walk_at "body"
    refine s_seq (s_if (t_or (t_not (t_B (e_isi kit_tup (e_var rfl ⟨ho, _, rfl, ?_⟩))))))
    cases d with
    | tup xs =>
      show TvC _ _ _ _ _ _
      refine t_not (t_B ?_)
      walk_at "ev"
      refine ⟨⟨_, _, _, rfl, rfl⟩, _, rfl, ?_⟩
      have ew : D.within 2 16 (.int xs.length) = (decide (2 ≤ xs.length) && decide (xs.length ≤ 16)) := by
        rw [D.within]
        congr 1
        · simp only [decide_eq_decide]; omega
        · simp only [decide_eq_decide]; omega
      cases e : D.within 2 16 (.int xs.length) with
      | false =>
        refine s_ret (e_bl ?_)
        show D.bl false = .bl (D.huesB (.tup xs))
        rw [D.huesB, ← ew, e]; rfl
      | true =>
        refine s_next ?_
        have hlen : xs.length ≤ 16 := by
          rw [e] at ew
          have := ew.symm
          rw [Bool.and_eq_true, decide_eq_true_eq, decide_eq_true_eq] at this
          exact this.2
        have hpx : ∀ x ∈ xs, x.own = false := fun x hx => plain_own (plains_mem (by simpa [D.plain] using hpl) hx)
        refine s_ret (e_cb (a_cons (e_lcT rfl (e_var rfl ⟨xs, rfl, by omega, fun i _ acc => acc = ((xs.take i).map (D.within 0 9)).map D.bl, rfl, ?_, ?_⟩))))
        · intro i n acc d hd hI _
          walk_at "ev"
          refine ⟨⟨_, rfl, hpx d (List.mem_of_getElem? hd)⟩, ?_⟩
          subst hI
          rw [List.take_add_one, hd]
          simp [fHue]
        · intro n acc _ hI
          subst hI
          rw [List.take_length]
          refine a_nil (v_all ?_)
          have ea : ((xs.map (D.within 0 9)).all id) = xs.all (D.within 0 9) := by
            rw [List.all_map]; rfl
          rw [ea]
          show D.bl _ = .bl (D.huesB (.tup xs))
          rw [D.huesB, ← ew, e]; rfl
    | _ => exact s_ret (e_bl rfl)

theorem ok__law_turning {f : Addr} {fd : FuncData} (F : Fun K "_law_turning" "_law_turning" s__law_turning f fd)
    {f__law_grid : Addr} {fd__law_grid : FuncData} (F__law_grid : Fun K "_law_grid" "_law_grid" s__law_grid f__law_grid fd__law_grid)
    (G__law_grid : FnOk P w K mg base CX0 3 f__law_grid fd__law_grid ["_law_hand_here", "_law_scale_here", "_law_many"] (SpH K preGrid psiGrid))
    (g__law_grid : mg "_law_grid" = some (.ref f__law_grid))
    {f__law_leads : Addr} {fd__law_leads : FuncData} (F__law_leads : Fun K "_law_leads" "_law_leads" s__law_leads f__law_leads fd__law_leads)
    (G__law_leads : FnOk P w K mg base CX0 3 f__law_leads fd__law_leads ["_law_hand_here", "_law_hues"] (SpH K preLd psiLd))
    (g__law_leads : mg "_law_leads" = some (.ref f__law_leads))
    (m_len : mg "len" = none) :
    FnOk P w K mg base CX0 4 f fd ["_law_hand_here", "_law_scale_here", "_law_hues"] (SpH K preTg psiTg) := by
  refine F.ok sc__law_turning (fun vs H Q E h => ?len) (fun cdv A outer s H vs Q E hr h => ⟨_, (pss_one (ps_ret (pe_tupC (pa_cons (pe_call G__law_leads (hr.mono (by decide)) (by rfl) g__law_leads F__law_leads.kp (bi__law_leads F__law_leads) .nil pass0 (pa_cons (pv 0) (pa_cons (pv 2) pa_nil))) (pa_cons (pe_call G__law_grid (hr.mono (by decide)) (by rfl) g__law_grid F__law_grid.kp (bi__law_grid F__law_grid) .nil pass0 (pa_cons (pv 0) (pa_cons (pv 1) (pa_cons (pe_callB (show CallR _ _ (rLenQ K) from call_len_seq) (by rfl) m_len (by decide +kernel) (pa_cons (pv 2) pa_nil)) pa_nil)))) pa_nil))))), ?r⟩)
  case len =>
    obtain ⟨l, ws, B, ds, m, rfl, _, _, _, is, ⟨_, ms, hs, rfl, _⟩, _⟩ := h
    show ws.length + 1 = 3
    rw [is.length]; rfl
  case r =>
    refine body_H h fun ad ds m hp hl => ?_
    obtain ⟨hm, ms, hs, rfl, hM, hn⟩ := hp
    walk_at "body"
    walk_at "ev"
    refine g_leads (by omega) hn fun m2 L q2 hL => ?_
    walk_at "ev"
    rw [dints_length]
    refine g_grid (by omega) hM hn fun m3 T q3 hT => ?_
    walk_at "ev"
    exact ⟨by omega, ms, hs, (L, T), rfl, rfl, hL, hT⟩

theorem ok__law_great {f : Addr} {fd : FuncData} (F : Fun K "_law_great" "_law_great" s__law_great f fd)
    {f__law_scale : Addr} {fd__law_scale : FuncData} (F__law_scale : Fun K "_law_scale" "_law_scale" s__law_scale f__law_scale fd__law_scale)
    (G__law_scale : FnOk P w K mg base CX0 3 f__law_scale fd__law_scale ["_law_hand_here"] (SpH K preSc psiSc))
    (g__law_scale : mg "_law_scale" = some (.ref f__law_scale))
    {f__law_colours : Addr} {fd__law_colours : FuncData} (F__law_colours : Fun K "_law_colours" "_law_colours" s__law_colours f__law_colours fd__law_colours)
    (G__law_colours : FnOk P w K mg base CX0 3 f__law_colours fd__law_colours ["_law_hand_here", "_law_most"] (SpH K preCol psiCol))
    (g__law_colours : mg "_law_colours" = some (.ref f__law_colours)) :
    FnOk P w K mg base CX0 4 f fd ["_law_hand_here", "_law_most"] (SpH K preGt19 psiGt19) := by
  refine F.ok sc__law_great (fun vs H Q E h => ?len) (fun cdv A outer s H vs Q E hr h => ⟨_, (pss_one (ps_ret (pe_tupC (pa_cons (pe_call G__law_scale (hr.mono (by decide)) (by rfl) g__law_scale F__law_scale.kp (bi__law_scale F__law_scale) .nil pass0 (pa_cons (pv 0) pa_nil)) (pa_cons (pe_call G__law_colours (hr.mono (by decide)) (by rfl) g__law_colours F__law_colours.kp (bi__law_colours F__law_colours) .nil pass0 (pa_cons (pv 0) (pa_cons (pv 1) pa_nil))) pa_nil))))), ?r⟩)
  case len =>
    obtain ⟨l, ws, B, ds, m, rfl, _, _, _, is, ⟨_, n, rfl, _⟩, _⟩ := h
    show ws.length + 1 = 2
    rw [is.length]; rfl
  case r =>
    refine body_H h fun ad ds m hp hl => ?_
    obtain ⟨hm, n, rfl, hn1, hn2⟩ := hp
    walk_at "body"
    walk_at "ev"
    refine g_scale (by omega) fun m1 ms q1 hM => ?_
    walk_at "ev"
    refine g_col (by omega) (by omega) (by omega) fun m2 hs q2 hH hl2 => ?_
    walk_at "ev"
    exact ⟨by omega, n, ms, hs, rfl, hM, hH, by omega, rfl⟩

theorem ok_Frame_init {f : Addr} {fd : FuncData} (F : Fun K "__init__" "Frame.__init__" s_Frame_init f fd)
    {f_is_measure : Addr} {fd_is_measure : FuncData} (F_is_measure : Fun K "is_measure" "is_measure" s_is_measure f_is_measure fd_is_measure)
    (G_is_measure : FnOk P w K mg base CX0 3 f_is_measure fd_is_measure ["thing"] (SpP K preMeas fMeas))
    (g_is_measure : mg "is_measure" = some (.ref f_is_measure))
    {f_are_hues : Addr} {fd_are_hues : FuncData} (F_are_hues : Fun K "are_hues" "are_hues" s_are_hues f_are_hues fd_are_hues)
    (G_are_hues : FnOk P w K mg base CX0 4 f_are_hues fd_are_hues ["thing"] (SpP K preMeas fHues))
    (g_are_hues : mg "are_hues" = some (.ref f_are_hues))
    (k_Frame : Own2 K cFrame "measure" "hues") :
    FnOk P w K mg base CX0 5 f fd ["self", "measure", "hues"] (SpI K cFrame "measure" "hues" preFrame) := by
  refine F.ok sc_Frame_init (fun vs H Q E h => ?len) (fun cdv A outer s H vs Q E hr h => ⟨_, (pss_cons (ps_if (pt_not (pt_val (pe_call G_is_measure (hr.mono (by decide)) (by rfl) g_is_measure F_is_measure.kp (bi_is_measure F_is_measure) .nil pass0 (pa_cons (pv 1) pa_nil)))) (pss_one ps_never) pss_nil)
      (pss_cons (ps_if (pt_not (pt_val (pe_call G_are_hues (hr.mono (by decide)) (by rfl) g_are_hues F_are_hues.kp (bi_are_hues F_are_hues) .nil pass0 (pa_cons (pv 2) pa_nil)))) (pss_one ps_never) pss_nil)
      (pss_cons (ps_fldK (K := K) rfl (pv 0) (pv 1) rfl)
      (pss_one (ps_fldK (K := K) rfl (pv 0) (pv 2) rfl))))), ?r⟩)
  case len =>
    obtain ⟨x, dx, B, v1, v2, d1, d2, rfl, _⟩ := h
    rfl
  case r =>
    refine body_I rfl k_Frame (by decide) h fun d1 d2 hp => ?_
    obtain ⟨ms, hs, e, hm, hh⟩ := hp
    cases e
    refine ⟨?_, fun n => ?_⟩
    · refine t_not (t_B ?_)
      walk_at "ev"
      refine ⟨⟨_, rfl, plain_ints ms⟩, _, rfl, ?_⟩
      rw [meas_of hm]; rfl
    · refine t_not (t_B ?_)
      walk_at "ev"
      refine ⟨⟨_, rfl, plain_ints hs⟩, _, rfl, ?_⟩
      rw [hues_of hh]; rfl

theorem ok__law_right {f : Addr} {fd : FuncData} (F : Fun K "_law_right" "_law_right" s__law_right f fd)
    {f_times_to : Addr} {fd_times_to : FuncData} (F_times_to : Fun K "times_to" "times_to" s_times_to f_times_to fd_times_to)
    (G_times_to : FnOk P w K mg base CX0 3 f_times_to fd_times_to ["frame", "turning", "one", "other"] (SpP K (preTi28 cFrame) fTi28))
    (g_times_to : mg "times_to" = some (.ref f_times_to))
    {f_Frame_init : Addr} {fd_Frame_init : FuncData} (F_Frame_init : Fun K "__init__" "Frame.__init__" s_Frame_init f_Frame_init fd_Frame_init)
    (G_Frame_init : FnOk P w K mg base CX0 5 f_Frame_init fd_Frame_init ["self", "measure", "hues"] (SpI K cFrame "measure" "hues" preFrame))
    {f__law_take : Addr} {fd__law_take : FuncData} (F__law_take : Fun K "_law_take" "_law_take" s__law_take f__law_take fd__law_take)
    (G__law_take : FnOk P w K mg base CX0 1 f__law_take fd__law_take ["_law_hand_here", "_law_many"] (SpH K preTake psiTake))
    (g__law_take : mg "_law_take" = some (.ref f__law_take))
    {f__law_knot : Addr} {fd__law_knot : FuncData} (F__law_knot : Fun K "_law_knot" "_law_knot" s__law_knot f__law_knot fd__law_knot)
    (G__law_knot : FnOk P w K mg base CX0 2 f__law_knot fd__law_knot ["_law_hand_here", "_law_scale_here"] (SpH K preKn psiKn))
    (g__law_knot : mg "_law_knot" = some (.ref f__law_knot))
    {f__law_spot : Addr} {fd__law_spot : FuncData} (F__law_spot : Fun K "_law_spot" "_law_spot" s__law_spot f__law_spot fd__law_spot)
    (G__law_spot : FnOk P w K mg base CX0 3 f__law_spot fd__law_spot ["_law_hand_here", "_law_scale_here", "_law_many", "_law_at_here"] (SpH K preSpot psiSpot))
    (g__law_spot : mg "_law_spot" = some (.ref f__law_spot))
    {f__law_ring : Addr} {fd__law_ring : FuncData} (F__law_ring : Fun K "_law_ring" "_law_ring" s__law_ring f__law_ring fd__law_ring)
    (G__law_ring : FnOk P w K mg base CX0 3 f__law_ring fd__law_ring ["_law_scale_here", "_law_turn", "_law_spot_here"] (SpP K preRi28 fRi28))
    (g__law_ring : mg "_law_ring" = some (.ref f__law_ring))
    (M_Frame : Mk K cFrame f_Frame_init) (g_Frame : mg "Frame" = some (.ref cFrame))
    (m_int : mg "int" = none)
    (m_len : mg "len" = none)
    (m_repr : mg "repr" = none) :
    FnG P w K mg base CX0 7 f fd ["_law_hand_here", "_law_scale_here", "_law_hues", "_law_turn", "_law_spot_here"] (SpH K preRt41 psiRt41) := by
  refine okG F sc__law_right (fun vs H Q E h => ?len) (fun cdv A outer s H vs Q E hG hr h => ⟨_, (pss_cons (ps_par (i := 8) (j := 9) rfl sc__law_right.nd rfl rfl (by decide) rfl rfl (pa_cons (pe_make M_Frame G_Frame_init (hr.mono (by decide)) (by rfl) g_Frame (bi_Frame_init F_Frame_init) .nil pass0 (pa_cons (pv 1) (pa_cons (pv 2) pa_nil))) (pa_cons (pe_call G__law_ring (hr.mono (by decide)) (by rfl) g__law_ring F__law_ring.kp (bi__law_ring F__law_ring) .nil pass0 (pa_cons (pv 1) (pa_cons (pv 3) (pa_cons (pv 4) pa_nil)))) pa_nil)) (by rfl))
      (pss_cons (ps_par (i := 10) (j := 11) rfl sc__law_right.nd rfl rfl (by decide) rfl rfl (pa_cons (pe_ix (show IxR _ (rIxL K) from ix_list) (pv 9) (pe_call G__law_take (hr.mono (by decide)) (by rfl) g__law_take F__law_take.kp (bi__law_take F__law_take) .nil pass0 (pa_cons (pv 0) (pa_cons (pe_callB (show CallR _ _ (rLenQ K) from call_len_seq) (by rfl) m_len (by decide +kernel) (pa_cons (pv 9) pa_nil)) pa_nil))) (fun _ _ => rfl)) (pa_cons (pe_call G__law_take (hr.mono (by decide)) (by rfl) g__law_take F__law_take.kp (bi__law_take F__law_take) .nil pass0 (pa_cons (pv 0) (pa_cons (pe_callB (show CallR _ _ (rLenQ K) from call_len_seq) (by rfl) m_len (by decide +kernel) (pa_cons (pv 2) pa_nil)) pa_nil))) pa_nil)) (by rfl))
      (pss_cons (ps_set (i := 5) sc__law_right.nd rfl (by first | exact Or.inl rfl | exact Or.inr rfl) (pe_op (show OpR _ _ (rCatC K) from op_catC) (pe_op (show OpR _ _ (rCatC K) from op_catC) (pe_slice (show SlR _ (rSlC K) from sl_tupC) (pe_ix (show IxR _ (rIxT K) from ix_tup) (pv 4) pe_int (fun _ _ => rfl)) po_none (po_some (pv 11))) (pe_tupC (pa_cons (pe_call G__law_knot (hr.mono (by decide)) (by rfl) g__law_knot F__law_knot.kp (bi__law_knot F__law_knot) .nil pass0 (pa_cons (pv 0) (pa_cons (pv 1) pa_nil))) pa_nil))) (pe_slice (show SlR _ (rSlC K) from sl_tupC) (pe_ix (show IxR _ (rIxT K) from ix_tup) (pv 4) pe_int (fun _ _ => rfl)) (po_some (pe_op op_add (pv 11) pe_int)) po_none)))
      (pss_cons (ps_set (i := 6) sc__law_right.nd rfl (by first | exact Or.inl rfl | exact Or.inr rfl) (pe_lst (pa_cons (pv 4) (pa_cons (pv 10) (pa_cons (pe_ix (show IxR _ (rIxL K) from ix_list) (pv 9) (pe_un un_neg pe_int) (fun _ _ => rfl)) (pa_cons (pe_call G__law_spot (hr.mono (by decide)) (by rfl) g__law_spot F__law_spot.kp (bi__law_spot F__law_spot) .nil pass0 (pa_cons (pv 0) (pa_cons (pv 1) (pa_cons (pe_callB (show CallR _ _ (rLenQ K) from call_len_seq) (by rfl) m_len (by decide +kernel) (pa_cons (pv 2) pa_nil)) (pa_cons (pv 11) pa_nil))))) pa_nil))))))
      (pss_cons (ps_set (i := 6) sc__law_right.nd rfl (by first | exact Or.inl rfl | exact Or.inr rfl) (pe_op op_cat (pv 6) (pe_op op_rep (pe_lst (pa_cons (pe_tupC (pa_cons (pe_ix (show IxR _ (rIxT K) from ix_tup) (pv 4) pe_int (fun _ _ => rfl)) (pa_cons (pv 5) pa_nil))) pa_nil)) (pe_callTy call_int1 (by rfl) m_int (by decide +kernel) (pa_cons (pe_cmpR op_ne (pv 11) (pe_ix (show IxR _ (rIxT K) from ix_tup) (pv 4) pe_int (fun _ _ => rfl)) (nomark _)) pa_nil)))))
      (pss_cons (ps_for PassesOwn.never rfl (pi_list (pv 6)) (pg_name (i := 7) sc__law_right.nd rfl (by first | exact Or.inl rfl | exact Or.inr rfl)) (pss_cons (ps_set (i := 12) sc__law_right.nd rfl (by first | exact Or.inl rfl | exact Or.inr rfl) (pe_ifExp (pt_cmpR (show OpR _ _ (rInD K) from op_inDE hr.u200) (pv 7) (pv 9) rfl) (pe_bmK (K := K) rfl PySem.F.plainAttrs_list PySem.F.slot_list_index PySem.F.type_list_index (show MtR _ _ (rIndexD K) from mt_idxLD hr.u200) (pv 9) (pa_cons (pv 7) pa_nil)) pe_non))
      (pss_cons (ps_if (pt_cmpR op_ne (pe_callB (show CallR _ _ (rRepr K) from call_reprD hG hr) (by rfl) m_repr (by decide +kernel) (pa_cons (pe_call G_times_to (hr.mono (by decide)) (by rfl) g_times_to F_times_to.kp (bi_times_to F_times_to) .nil pass0 (pa_cons (pv 8) (pa_cons (pv 3) (pa_cons (pv 4) (pa_cons (pv 7) pa_nil))))) pa_nil)) (pe_callB (show CallR _ _ (rRepr K) from call_reprD hG hr) (by rfl) m_repr (by decide +kernel) (pa_cons (pv 12) pa_nil)) (nomark _)) (pss_one (ps_ret pe_bl)) pss_nil)
      (pss_cons (ps_if (PW.pt (pw_and (pt_cmpR op_notN1 (pv 12) pe_non (nomark _)) (pw_and (pt_cmpR op_gt (pv 12) pe_int (nomark _)) (pw_and1 (pt_cmpR (show OpR _ _ (rNeD K) from op_neD hr.units) (pe_call G_times_to (hr.mono (by decide)) (by rfl) g_times_to F_times_to.kp (bi_times_to F_times_to) .nil pass0 (pa_cons (pv 8) (pa_cons (pv 3) (pa_cons (pv 7) (pa_cons (pv 4) pa_nil))))) (pe_op op_sub (pe_callB (show CallR _ _ (rLenQ K) from call_len_seq) (by rfl) m_len (by decide +kernel) (pa_cons (pv 9) pa_nil)) (pv 12)) (nomark _)))))) (pss_one (ps_ret pe_bl)) pss_nil)
      (pss_one (ps_if (PW.pt (pw_and (pt_cmpR op_isN1 (pv 12) pe_non (nomark _)) (pw_and1 (pt_cmpR op_notN1 (pe_call G_times_to (hr.mono (by decide)) (by rfl) g_times_to F_times_to.kp (bi_times_to F_times_to) .nil pass0 (pa_cons (pv 8) (pa_cons (pv 3) (pa_cons (pv 7) (pa_cons (pv 4) pa_nil))))) pe_non (nomark _))))) (pss_one (ps_ret pe_bl)) pss_nil))))))
      (pss_one (ps_ret pe_bl)))))))), ?r⟩)
  case len =>
    obtain ⟨l, ws, B, ds, m, rfl, _, _, _, is, ⟨_, ms, hs, t, p, rfl, _⟩, _⟩ := h
    show ws.length + 1 = 5
    rw [is.length]; rfl
  case r =>
    refine body_H h fun ad ds m hp hl => ?_
    obtain ⟨hm, ms, hs, t, p, rfl, hMQ, hH, ht, hp⟩ := hp
    have hM := hMQ.1
    have h16 := hH.2.1
    have h2 := hH.1
    have htl := ht.lead.len
    walk_at "body"
    walk_at "ev"
    refine ⟨⟨ms, hs, rfl, hMQ, hH⟩, ?_⟩
    walk_at "ev"
    refine ⟨⟨ms, hs, t, p, rfl, hM, h16, ht, hp⟩, ?_⟩
    rw [fRi28_is, htl]
    obtain ⟨R, eR⟩ : ∃ R, R = ringP28 ms hs.length t p := ⟨_, rfl⟩
    obtain ⟨s1, s2, s3⟩ := perP_spec28 hM ht hp
    have hob := ord_bd28 hM ht h16
    have hRl : R.length = perP28 ms hs.length t p + 1 := by rw [eR, ringP_len28]
    have hRp : ∀ q ∈ R, PlP ms hs.length q.1 q.2 := fun q hq => by rw [eR] at hq; exact ringP_pl28 hM ht hp hq
    have hRne : R ≠ [] := fun e => by rw [e] at hRl; simp at hRl
    have hE := spots_num42 hM (by omega) hRp
    have hget : ∀ k y, R[k]? = some y → (R.map dspot)[k]? = some (dspot y) := fun k y h => by rw [List.getElem?_map, h]; rfl
    rw [← eR]
    refine a_nil ⟨_, _, rfl, ?_⟩
    walk_at "ro"
    walk_at "ev"
    rw [List.length_map]
    refine g_take (n := R.length) (by omega) (by omega) (by omega) fun m1 r1 hm1 hr1 => ?_
    obtain ⟨far, hfar⟩ : ∃ y, R[r1]? = some y := ⟨_, List.getElem?_eq_getElem hr1⟩
    have hfd := hget r1 far hfar
    walk_at "ev"
    rw [dints_length]
    refine g_take (n := hs.length) (by omega) (by omega) (by omega) fun m2 at_ hm2 hat => ?_
    refine a_nil ⟨_, _, rfl, ?_⟩
    walk_at "ro"
    walk_at "ev"
    refine g_knot (by omega) hM fun m3 k hm3 hk => ?_
    refine a_nil ⟨by show 1 ≤ 100000; omega, ?_⟩
    have hpl := hp.len
    refine v_catT (by rw [cut_take, List.length_take, List.length_map]; simp; omega) ?_
    walk_at "ev"
    refine v_catT (by rw [cut_take, List.length_append, List.length_take, List.length_map, show ((at_ : Int) + 1) = ((at_ + 1 : Nat) : Int) by omega, cut_drop, List.length_drop, List.length_map]; simp; omega) ?_
    rw [cut_set (fun t => D.tup (dints t)) p.2 at_ k (by omega)]
    obtain ⟨nr, enr⟩ : ∃ nr, nr = p.2.set at_ k := ⟨_, rfl⟩
    rw [← enr]
    walk_at "ro"
    walk_at "ev"
    obtain ⟨last, hlast⟩ : ∃ y, R[R.length - 1]? = some y := ⟨_, List.getElem?_eq_getElem (by omega)⟩
    refine v_ixLn (d := dspot last) (by decide) (by rw [List.length_map]; omega) (by rw [List.length_map, show (((R.length : Nat) : Int) + -1).toNat = R.length - 1 by omega]; exact hget _ last hlast) ?_
    walk_at "ev"
    rw [dints_length]
    refine g_spot (by omega) hM hat (by omega) fun m4 S hm4 hS => ?_
    refine a_nil ⟨by show 4 ≤ 100000; omega, ?_⟩
    walk_at "ro"
    walk_at "ev"
    refine v_repL (by split <;> omega) (by split <;> omega) (by simp) ?_
    refine v_catL (by rw [show [dspot p, dspot far, dspot last, dplace at_ S].length = 4 from rfl]; split <;> simp) ?_
    obtain ⟨U, eU, hUl, hUp⟩ : ∃ U : List Spot, [dspot p, dspot far, dspot last, dplace at_ S] ++ (List.replicate (if (!decide ((at_ : Int) = (p.1 : Int))) = true then (1 : Int) else 0).toNat [D.tup [D.int (p.1 : Nat), D.tup (nr.map fun t => D.tup (dints t))]]).flatten = U.map dspot ∧
        U.length ≤ 5 ∧ ∀ q ∈ U, PlP ms hs.length q.1 q.2 := by
      have base : ∀ q ∈ [p, far, last, ((at_, S) : Spot)], PlP ms hs.length q.1 q.2 := fun q hq => by
        simp only [List.mem_cons, List.not_mem_nil, or_false] at hq
        rcases hq with rfl | rfl | rfl | rfl
        · exact hp
        · exact hRp _ (List.mem_of_getElem? hfar)
        · exact hRp _ (List.mem_of_getElem? hlast)
        · exact hS
      by_cases ea : at_ = p.1
      · refine ⟨[p, far, last, (at_, S)], ?_, by simp, base⟩
        rw [decide_eq_true (show (at_ : Int) = (p.1 : Int) by omega)]
        rfl
      · refine ⟨[p, far, last, (at_, S)] ++ [(p.1, nr)], ?_, by simp, fun q hq => ?_⟩
        · rw [decide_eq_false (show ¬ (at_ : Int) = (p.1 : Int) by omega)]
          rfl
        · rcases List.mem_append.mp hq with hq | hq
          · exact base q hq
          · rw [List.mem_singleton.mp hq, enr]
            exact set_pl35 hp hk ea
    rw [eU]
    have numS : ∀ y : Spot, PlP ms hs.length y.1 y.2 → Num 3 1700 (dspot y) := fun y hy => num_place hM (show hs.length ≤ 17 by omega) hy.lt hy.len hy.tie
    refine s_seq (s_forLw ?_)
    walk_at "ev"
    refine ⟨0, [7, 12], fun c xs => ∃ x7 x12 : Option Sl, xs = [x7, x12], [_, _], rfl, rfl, ⟨none, none, rfl⟩, fun c n d xs hd hn hx hI => ?_, fun n xs hn hx hI => ?_⟩
    · obtain ⟨x7, x12, rfl⟩ := hI
      obtain ⟨q, hq, rfl⟩ : ∃ q, q ∈ U ∧ d = dspot q := by
        rw [List.getElem?_map, Option.map_eq_some_iff] at hd
        obtain ⟨y, h1, h2⟩ := hd
        exact ⟨y, List.mem_of_getElem? h1, h2.symm⟩
      have hqp := hUp q hq
      have nq := numS q hqp
      walk_at "ro"
      walk_at "ev"
      refine v_inDL (nq.eqs (by omega)) hE ?_
      rw [spot_in14 hM h16 hRp hqp, List.contains_eq_mem]
      refine ⟨_, rfl, ?_⟩
      by_cases hqR : q ∈ R
      · walk_at "yes"
        refine e_idxLD ?_
        walk_at "ev"
        refine ⟨hE, ?_⟩
        walk_at "ev"
        refine idxL28 hM (n := hs.length) (by omega) hRp hqR ?_
        obtain ⟨k0, ek0⟩ : ∃ k0, k0 = R.idxOf q := ⟨_, rfl⟩
        have hk0 : k0 < R.length := by rw [ek0]; exact List.idxOf_lt_length_of_mem hqR
        have hkq : itP28 ms t k0 p = q := by
          have h1 := idx_at28 hqR
          rw [← ek0, eR, ringP_get28 (by omega)] at h1
          exact Option.some.inj h1
        rw [← ek0]
        have hsh : Shows (.int (k0 : Nat)) := shows_big28 (by rw [Int.natAbs_natCast]; exact Nat.lt_of_lt_of_le (show k0 < 2 ^ 20 by omega) (Nat.pow_le_pow_right (by decide) (by decide)))
        walk_at "ro"
        walk_at "ev"
        refine ⟨⟨ms, hs, t, p, q, rfl, hM, h16, ht, hp, hqp⟩, ?_⟩
        rw [show fTi28 [D.ins cFrame [Str.ofString "measure", Str.ofString "hues"] [D.tup (dints ms), D.tup (dints hs)], dturn t, dspot p, dspot q] = _ from fTi28_is cFrame ms hs t p q, htl, ← eR, if_pos hqR, ← ek0]
        walk_at "ev"
        refine v_notN ?_
        rw [show (!(D.int (k0 : Nat)).isNon) = true from rfl]
        walk_at "ev"
        by_cases hk1 : 0 < k0
        · obtain ⟨b1, b2⟩ := back_idx28 hM ht hp hk1 (by omega)
          rw [hkq] at b1 b2
          rw [if_pos (decide_eq_true (by omega))]
          walk_at "ev"
          refine ⟨⟨ms, hs, t, q, p, rfl, hM, h16, ht, hqp, hp⟩, ?_⟩
          rw [show fTi28 [D.ins cFrame [Str.ofString "measure", Str.ofString "hues"] [D.tup (dints ms), D.tup (dints hs)], dturn t, dspot q, dspot p] = _ from fTi28_is cFrame ms hs t q p, htl, if_pos b1, b2]
          walk_at "ev"
          rw [List.length_map, decide_eq_true (show ((perP28 ms hs.length t p + 1 - k0 : Nat) : Int) = ((R.length : Nat) : Int) - (k0 : Int) by omega)]
          walk_at "ev"
          refine v_isN ?_
          rw [show (D.int (k0 : Nat)).isNon = false from rfl]
          walk_at "ev"
          exact ⟨[_, _], rfl, rfl, _, _, rfl⟩
        · rw [if_neg (by rw [decide_eq_false (by omega)]; exact Bool.false_ne_true)]
          walk_at "ev"
          refine v_isN ?_
          rw [show (D.int (k0 : Nat)).isNon = false from rfl]
          walk_at "ev"
          exact ⟨[_, _], rfl, rfl, _, _, rfl⟩
      · walk_at "no"
        have hsn : Shows .non := ⟨rfl, rfl, by decide, by decide⟩
        have hback := off_back28 hM ht hp hqp (by rw [← eR]; exact hqR)
        walk_at "ev"
        refine ⟨⟨ms, hs, t, p, q, rfl, hM, h16, ht, hp, hqp⟩, ?_⟩
        rw [show fTi28 [D.ins cFrame [Str.ofString "measure", Str.ofString "hues"] [D.tup (dints ms), D.tup (dints hs)], dturn t, dspot p, dspot q] = _ from fTi28_is cFrame ms hs t p q, htl, ← eR, if_neg hqR]
        walk_at "ev"
        refine v_notN ?_
        rw [show (!(D.non).isNon) = false from rfl]
        walk_at "ev"
        refine ⟨⟨ms, hs, t, q, p, rfl, hM, h16, ht, hqp, hp⟩, ?_⟩
        rw [show fTi28 [D.ins cFrame [Str.ofString "measure", Str.ofString "hues"] [D.tup (dints ms), D.tup (dints hs)], dturn t, dspot q, dspot p] = _ from fTi28_is cFrame ms hs t q p, htl, if_neg hback]
        walk_at "ev"
        refine v_notN ?_
        rw [show (!(D.non).isNon) = false from rfl]
        walk_at "ev"
        exact ⟨[_, _], rfl, rfl, _, _, rfl⟩
    · obtain ⟨x7, x12, rfl⟩ := hI
      walk_at "ro"
      walk_at "ev"
      exact ⟨by omega, rfl⟩

theorem ok__law_far_right {f : Addr} {fd : FuncData} (F : Fun K "_law_far_right" "_law_far_right" s__law_far_right f fd)
    {f_times_to : Addr} {fd_times_to : FuncData} (F_times_to : Fun K "times_to" "times_to" s_times_to f_times_to fd_times_to)
    (G_times_to : FnOk P w K mg base CX0 3 f_times_to fd_times_to ["frame", "turning", "one", "other"] (SpP K (preTi28 cFrame) fTi28))
    (g_times_to : mg "times_to" = some (.ref f_times_to))
    {f_Frame_init : Addr} {fd_Frame_init : FuncData} (F_Frame_init : Fun K "__init__" "Frame.__init__" s_Frame_init f_Frame_init fd_Frame_init)
    (G_Frame_init : FnOk P w K mg base CX0 5 f_Frame_init fd_Frame_init ["self", "measure", "hues"] (SpI K cFrame "measure" "hues" preFrame))
    {f__law_take : Addr} {fd__law_take : FuncData} (F__law_take : Fun K "_law_take" "_law_take" s__law_take f__law_take fd__law_take)
    (G__law_take : FnOk P w K mg base CX0 1 f__law_take fd__law_take ["_law_hand_here", "_law_many"] (SpH K preTake psiTake))
    (g__law_take : mg "_law_take" = some (.ref f__law_take))
    {f__law_ring : Addr} {fd__law_ring : FuncData} (F__law_ring : Fun K "_law_ring" "_law_ring" s__law_ring f__law_ring fd__law_ring)
    (G__law_ring : FnOk P w K mg base CX0 3 f__law_ring fd__law_ring ["_law_scale_here", "_law_turn", "_law_spot_here"] (SpP K preRi28 fRi28))
    (g__law_ring : mg "_law_ring" = some (.ref f__law_ring))
    {f__law_long : Addr} {fd__law_long : FuncData} (F__law_long : Fun K "_law_long" "_law_long" s__law_long f__law_long fd__law_long)
    (G__law_long : FnOk P w K mg base CX0 3 f__law_long fd__law_long ["_law_hand_here"] (SpH K preLg29 psiLg29))
    (g__law_long : mg "_law_long" = some (.ref f__law_long))
    (M_Frame : Mk K cFrame f_Frame_init) (g_Frame : mg "Frame" = some (.ref cFrame))
    (m_len : mg "len" = none)
    (m_range : mg "range" = none)
    (m_tuple : mg "tuple" = none) :
    FnOk P w K mg base CX0 7 f fd ["_law_hand_here"] (SpH K preFr42 psiFr42) := by
  refine F.ok sc__law_far_right (fun vs H Q E h => ?len) (fun cdv A outer s H vs Q E hr h => ⟨_, (pss_cons (ps_asg (pe_tupC (pa_cons (pe_make M_Frame G_Frame_init (hr.mono (by decide)) (by rfl) g_Frame (bi_Frame_init F_Frame_init) .nil pass0 (pa_cons (pe_tupC (pa_cons pe_int (pa_cons pe_int (pa_cons pe_int pa_nil)))) (pa_cons (pe_op (show OpR _ _ (rRepA K) from op_repA) (pe_tupC (pa_cons (pe_call G__law_take (hr.mono (by decide)) (by rfl) g__law_take F__law_take.kp (bi__law_take F__law_take) .nil pass0 (pa_cons (pv 0) (pa_cons pe_int pa_nil))) pa_nil)) pe_int) pa_nil))) (pa_cons (pe_call G__law_long (hr.mono (by decide)) (by rfl) g__law_long F__law_long.kp (bi__law_long F__law_long) .nil pass0 (pa_cons (pv 0) pa_nil)) pa_nil))) (pg_tup rfl (pgs_cons (pg_name (i := 5) sc__law_far_right.nd rfl (by first | exact Or.inl rfl | exact Or.inr rfl)) (pgs_cons (pg_tup rfl (pgs_cons (pg_name (i := 6) sc__law_far_right.nd rfl (by first | exact Or.inl rfl | exact Or.inr rfl)) (pgs_cons (pg_name (i := 7) sc__law_far_right.nd rfl (by first | exact Or.inl rfl | exact Or.inr rfl)) pgs_nil))) pgs_nil))))
      (pss_cons (ps_set (i := 1) sc__law_far_right.nd rfl (by first | exact Or.inl rfl | exact Or.inr rfl) (pe_tupC (pa_cons pe_int (pa_cons pe_int (pa_cons pe_int pa_nil)))))
      (pss_cons (ps_set (i := 2) sc__law_far_right.nd rfl (by first | exact Or.inl rfl | exact Or.inr rfl) (pe_call G__law_ring (hr.mono (by decide)) (by rfl) g__law_ring F__law_ring.kp (bi__law_ring F__law_ring) .nil pass0 (pa_cons (pe_tupC (pa_cons pe_int (pa_cons pe_int (pa_cons pe_int pa_nil)))) (pa_cons (pv 6) (pa_cons (pe_tupC (pa_cons (pe_ix (show IxR _ (rIxL K) from ix_list) (pv 7) pe_int (fun _ _ => rfl)) (pa_cons (pe_op (show OpR _ _ (rRepA K) from op_repA) (pe_tupC (pa_cons (pv 1) pa_nil)) pe_int) pa_nil))) pa_nil)))))
      (pss_cons (ps_set (i := 3) sc__law_far_right.nd rfl (by first | exact Or.inl rfl | exact Or.inr rfl) (pe_op op_add pe_int (pe_call G__law_take (hr.mono (by decide)) (by rfl) g__law_take F__law_take.kp (bi__law_take F__law_take) .nil pass0 (pa_cons (pv 0) (pa_cons (pe_op op_sub (pe_callB (show CallR _ _ (rLenQ K) from call_len_seq) (by rfl) m_len (by decide +kernel) (pa_cons (pv 2) pa_nil)) pe_int) pa_nil)))))
      (pss_cons (ps_if (pt_cmpR (show OpR _ _ (rNeD K) from op_neD hr.units) (pe_call G_times_to (hr.mono (by decide)) (by rfl) g_times_to F_times_to.kp (bi_times_to F_times_to) .nil pass0 (pa_cons (pv 5) (pa_cons (pv 6) (pa_cons (pe_ix (show IxR _ (rIxL K) from ix_list) (pv 2) pe_int (fun _ _ => rfl)) (pa_cons (pe_ix (show IxR _ (rIxL K) from ix_list) (pv 2) (pv 3) (fun _ _ => rfl)) pa_nil))))) (pv 3) (nomark _)) (pss_one (ps_ret pe_bl)) pss_nil)
      (pss_cons (ps_if (pt_cmpR (show OpR _ _ (rNeD K) from op_neD hr.units) (pe_call G_times_to (hr.mono (by decide)) (by rfl) g_times_to F_times_to.kp (bi_times_to F_times_to) .nil pass0 (pa_cons (pv 5) (pa_cons (pv 6) (pa_cons (pe_ix (show IxR _ (rIxL K) from ix_list) (pv 2) (pv 3) (fun _ _ => rfl)) (pa_cons (pe_ix (show IxR _ (rIxL K) from ix_list) (pv 2) pe_int (fun _ _ => rfl)) pa_nil))))) (pe_op op_sub pe_int (pv 3)) (nomark _)) (pss_one (ps_ret pe_bl)) pss_nil)
      (pss_cons (ps_set (i := 4) sc__law_far_right.nd rfl (by first | exact Or.inl rfl | exact Or.inr rfl) (pe_tupC (pa_cons (pe_ix (show IxR _ (rIxL K) from ix_list) (pv 7) pe_int (fun _ _ => rfl)) (pa_cons (pe_callTy (show CallR _ _ (rTupC K) from call_tupC) (by rfl) m_tuple (by decide +kernel) (pa_cons (pe_lc (own := [("_law_to", 8)]) (g := gName 8) (tt := tYes) rfl sc__law_far_right.nd (pi_range1 rfl m_range (pa_cons pe_int pa_nil)) (blkOk_by (own := [("_law_to", 8)]) (N := ["_law_hand_here", "_law_even", "_law_path", "_law_far", "_law_off", "_law_frame", "_law_turn", "_law_order", "_law_to"]) (sc := defScope s__law_far_right) (by decide +kernel)) (fun _ _ _ _ _ => (pg_name (i := 8) sc__law_far_right.nd rfl (by first | exact Or.inl rfl | exact Or.inr rfl))) (fun _ _ _ _ _ => pts_nil) (fun _ _ _ _ _ => (pe_ifExp (pt_cmpR op_eq (pv 8) (pe_ix (show IxR _ (rIxL K) from ix_list) (pv 7) pe_int (fun _ _ => rfl)) (nomark _)) (pe_tupC (pa_cons pe_int (pa_cons pe_int (pa_cons pe_int pa_nil)))) (pv 1)))) pa_nil)) pa_nil))))
      (pss_one (ps_ret (pe_cmpR op_isN1 (pe_call G_times_to (hr.mono (by decide)) (by rfl) g_times_to F_times_to.kp (bi_times_to F_times_to) .nil pass0 (pa_cons (pv 5) (pa_cons (pv 6) (pa_cons (pe_ix (show IxR _ (rIxL K) from ix_list) (pv 2) pe_int (fun _ _ => rfl)) (pa_cons (pv 4) pa_nil))))) pe_non (nomark _))))))))))), ?r⟩)
  case len =>
    obtain ⟨l, ws, B, ds, m, rfl, _, _, _, is, ⟨_, rfl⟩, _⟩ := h
    show ws.length + 1 = 1
    rw [is.length]; rfl
  case r =>
    refine body_H h fun ad ds m hp hl => ?_
    obtain ⟨hm, rfl⟩ := hp
    have hM := ms29_q.1
    walk_at "body"
    refine s_seq (s_unp12 ?_)
    walk_at "ev"
    refine g_take (n := 10) (by omega) (by omega) (by omega) fun m1 h hm1 hh => ?_
    walk_at "ev"
    refine v_repT (by omega) (by omega) (by simp) ?_
    rw [List.flatten_replicate_singleton, show List.replicate (12 : Int).toNat (D.int (h : Nat)) = dints (List.replicate 12 (h : Int)) from by rw [dints, List.map_replicate]; rfl]
    obtain ⟨hs, ehs⟩ : ∃ hs, hs = List.replicate 12 (h : Int) := ⟨_, rfl⟩
    have hsl : hs.length = 12 := by rw [ehs]; simp
    have hH : HuP hs := ⟨by omega, by omega, fun n hn => by rw [ehs] at hn; rw [List.eq_of_mem_replicate hn]; omega⟩
    rw [← ehs]
    walk_at "ev"
    refine ⟨⟨ms29, hs, rfl, ms29_q, hH⟩, ?_⟩
    walk_at "ev"
    refine g_long29 (by omega) fun m2 t o hm2 hL => ?_
    have ht := hL.turn h
    rw [← ehs] at ht
    have htl := ht.lead.len
    have O := own30 hL.perm
    have hol := O.len
    obtain ⟨o0, eo0⟩ : ∃ o0, o0 = o.getD 0 0 := ⟨_, rfl⟩
    obtain ⟨o1, eo1⟩ : ∃ o1, o1 = o.getD 1 0 := ⟨_, rfl⟩
    have g0 : (dnats o)[0]? = some (.int (o0 : Nat)) := dnats_get (by rw [eo0, List.getD_eq_getElem?_getD, List.getElem?_eq_getElem (by omega)]; rfl)
    have g1 : (dnats o)[1]? = some (.int (o1 : Nat)) := dnats_get (by rw [eo1, List.getD_eq_getElem?_getD, List.getElem?_eq_getElem (by omega)]; rfl)
    have ho0 : o0 < 12 := by rw [eo0]; exact O.lt 0 (by omega)
    have ho1 : o1 < 12 := by rw [eo1]; exact O.lt 1 (by omega)
    have ho01 : o0 ≠ o1 := fun e => by rw [eo0, eo1] at e; have := O.inj 0 (by omega) 1 (by omega) e; omega
    refine ⟨_, _, rfl, ?_⟩
    walk_at "ro"
    walk_at "ev"
    refine v_ixL (d := .int (o0 : Nat)) (by decide) g0 ?_
    walk_at "ev"
    refine v_repT (by omega) (by omega) (by simp) ?_
    rw [show (List.replicate (12 : Int).toNat [D.tup [D.int 0, D.int 0, D.int 0]]).flatten = (List.replicate 12 [(0 : Int), 0, 0]).map fun t => D.tup (dints t) from rfl]
    obtain ⟨p, ep⟩ : ∃ p : Spot, p = (o0, List.replicate 12 [0, 0, 0]) := ⟨_, rfl⟩
    have hpp : PlP ms29 hs.length p.1 p.2 := by rw [hsl, ep]; exact zero_pl42 ho0
    walk_at "ev"
    rw [show D.tup [D.int (o0 : Nat), D.tup ((List.replicate 12 [(0 : Int), 0, 0]).map fun t => D.tup (dints t))] = dspot p from by rw [ep]]
    refine ⟨⟨ms29, hs, t, p, rfl, hM, by omega, ht, hpp⟩, ?_⟩
    rw [show fRi28 [D.tup [D.int 5, D.int 3, D.int 2], dturn t, dspot p] = .lst ((ringP28 ms29 t.1.length t p).map dspot) from fRi28_is ms29 t p, htl]
    have hper : perP28 ms29 hs.length t p = 1799 := by rw [hsl, ep, eo0]; exact long_per30 hL h
    obtain ⟨R, eR⟩ : ∃ R, R = ringP28 ms29 hs.length t p := ⟨_, rfl⟩
    have hRl : R.length = 1800 := by rw [eR, ringP_len28, hper]
    have hRp : ∀ q ∈ R, PlP ms29 12 q.1 q.2 := fun q hq => by rw [← hsl]; rw [eR] at hq; exact ringP_pl28 hM ht hpp hq
    have hRg : ∀ k, k < 1800 → R[k]? = some (itP28 ms29 t k p) := fun k hk => by rw [eR]; exact ringP_get28 (by omega)
    have hRd : ∀ k, k < 1800 → (R.map dspot)[k]? = some (dspot (itP28 ms29 t k p)) := fun k hk => by rw [List.getElem?_map, hRg k hk]; rfl
    rw [← eR]
    walk_at "ro"
    walk_at "ev"
    rw [List.length_map, hRl]
    refine g_take (n := 800) (by omega) (by omega) (by omega) fun m3 r hm3 hr => ?_
    have hnd := ringP_nd28 hM ht hpp
    have iPl := fun k => itP_pl28 hM ht hpp k
    obtain ⟨F, eF⟩ : ∃ F, F = 1000 + r := ⟨_, rfl⟩
    have hF : F < 1800 := by omega
    have hTi := fun a b : Spot => (fTi28_is cFrame ms29 hs t a b)
    have hmF : itP28 ms29 t F p ∈ ringP28 ms29 hs.length t p := (ringP_mem28 hM ht hpp).mpr ⟨F, rfl⟩
    have hiF : (ringP28 ms29 hs.length t p).idxOf (itP28 ms29 t F p) = F := idx_eq28 hnd (ringP_get28 (by omega))
    obtain ⟨b1, b2⟩ := back_idx28 hM ht hpp (k := F) (by omega) (by omega)
    rw [hper] at b2
    have d0 := hRd 0 (by omega)
    have dF := hRd F hF
    have hSh : itP28 ms29 t 0 p = p := rfl
    rw [hSh] at d0
    walk_at "ev"
    rw [show (1000 : Int) + (r : Int) = ((F : Nat) : Int) by omega]
    walk_at "ro"
    walk_at "ev"
    refine v_ixL (d := dspot p) (by decide) d0 ?_
    walk_at "ev"
    refine ⟨⟨ms29, hs, t, p, itP28 ms29 t F p, rfl, hM, by omega, ht, hpp, iPl F⟩, ?_⟩
    rw [show fTi28 [D.ins cFrame [Str.ofString "measure", Str.ofString "hues"] [D.tup [D.int 5, D.int 3, D.int 2], D.tup (dints hs)], dturn t, dspot p, dspot (itP28 ms29 t F p)] = _ from hTi p (itP28 ms29 t F p), htl, if_pos hmF, hiF]
    walk_at "ev"
    rw [decide_eq_true rfl]
    walk_at "ev"
    refine v_ixL (d := dspot p) (by decide) d0 ?_
    walk_at "ev"
    refine ⟨⟨ms29, hs, t, itP28 ms29 t F p, p, rfl, hM, by omega, ht, iPl F, hpp⟩, ?_⟩
    rw [show fTi28 [D.ins cFrame [Str.ofString "measure", Str.ofString "hues"] [D.tup [D.int 5, D.int 3, D.int 2], D.tup (dints hs)], dturn t, dspot (itP28 ms29 t F p), dspot p] = _ from hTi (itP28 ms29 t F p) p, htl, if_pos b1, b2]
    walk_at "ev"
    rw [decide_eq_true (show ((1799 + 1 - F : Nat) : Int) = 1800 - (F : Int) by omega)]
    walk_at "ev"
    refine v_ixL (d := .int (o0 : Nat)) (by decide) g0 ?_
    walk_at "ev"
    refine e_lcRf (j := 8) rfl ?_
    walk_at "ev"
    refine ⟨12, fun y => .tup (dints (if y = o1 then [0, 0, 1] else [0, 0, 0])), rfl, by omega, fun y hy => ?_, ?_⟩
    · walk_at "ro"
      walk_at "ev"
      refine v_ixL (d := .int (o1 : Nat)) (by decide) g1 ?_
      walk_at "ev"
      by_cases e : y = o1
      · rw [decide_eq_true (show ((y : Nat) : Int) = (o1 : Int) by omega), if_pos e]
        walk_at "ev"
        rfl
      · rw [decide_eq_false (show ¬ ((y : Nat) : Int) = (o1 : Int) by omega), if_neg e]
        walk_at "ev"
        rfl
    walk_at "ev"
    obtain ⟨q, eq⟩ : ∃ q : Spot, q = (o0, off30 o1) := ⟨_, rfl⟩
    have hqp : PlP ms29 hs.length q.1 q.2 := by rw [hsl, eq]; exact off_pl30 ho0 ho01
    have hqR : q ∉ ringP28 ms29 hs.length t p := fun hm => by
      obtain ⟨k, hk⟩ := (ringP_mem28 hM ht hpp).mp hm
      rw [ep, eq, eo0] at hk
      exact long_off30 hL h (S := off30 o1) (by rw [← eo1]; exact off_at30 ho1) k hk
    rw [show D.tup [D.int (o0 : Nat), D.tup ((List.range 12).map fun y => D.tup (dints (if y = o1 then [0, 0, 1] else [0, 0, 0])))] = dspot q from by rw [eq]; show _ = D.tup [_, D.tup ((off30 o1).map fun t => D.tup (dints t))]; rw [off30, List.map_map]; rfl]
    walk_at "ro"
    walk_at "ev"
    refine v_ixL (d := dspot p) (by decide) d0 ?_
    walk_at "ev"
    refine ⟨⟨ms29, hs, t, p, q, rfl, hM, by omega, ht, hpp, hqp⟩, ?_⟩
    rw [show fTi28 [D.ins cFrame [Str.ofString "measure", Str.ofString "hues"] [D.tup [D.int 5, D.int 3, D.int 2], D.tup (dints hs)], dturn t, dspot p, dspot q] = _ from hTi p q, htl, if_neg hqR]
    walk_at "ev"
    exact ⟨by omega, rfl⟩

theorem ok_law {f : Addr} {fd : FuncData} (F : Fun K "law" "law" s_law f fd)
    {f__law_hand : Addr} {fd__law_hand : FuncData} (F__law_hand : Fun K "_law_hand" "_law_hand" s__law_hand f__law_hand fd__law_hand)
    (G__law_hand : FnOk P w K mg base CX0 1 f__law_hand fd__law_hand ["_law_script", "_law_k"] (SpR K preHand fun _ d => isHand d))
    (g__law_hand : mg "_law_hand" = some (.ref f__law_hand))
    {f__law_turning : Addr} {fd__law_turning : FuncData} (F__law_turning : Fun K "_law_turning" "_law_turning" s__law_turning f__law_turning fd__law_turning)
    (G__law_turning : FnOk P w K mg base CX0 4 f__law_turning fd__law_turning ["_law_hand_here", "_law_scale_here", "_law_hues"] (SpH K preTg psiTg))
    (g__law_turning : mg "_law_turning" = some (.ref f__law_turning))
    {f__law_spots : Addr} {fd__law_spots : FuncData} (F__law_spots : Fun K "_law_spots" "_law_spots" s__law_spots f__law_spots fd__law_spots)
    (G__law_spots : FnOk P w K mg base CX0 3 f__law_spots fd__law_spots ["_law_hand_here", "_law_scale_here", "_law_size", "_law_many"] (SpH K preSs35 psiSs28))
    (g__law_spots : mg "_law_spots" = some (.ref f__law_spots))
    {f__law_great : Addr} {fd__law_great : FuncData} (F__law_great : Fun K "_law_great" "_law_great" s__law_great f__law_great fd__law_great)
    (G__law_great : FnOk P w K mg base CX0 4 f__law_great fd__law_great ["_law_hand_here", "_law_most"] (SpH K preGt19 psiGt19))
    (g__law_great : mg "_law_great" = some (.ref f__law_great))
    {f__law_right : Addr} {fd__law_right : FuncData} (F__law_right : Fun K "_law_right" "_law_right" s__law_right f__law_right fd__law_right)
    (G__law_right : FnG P w K mg base CX0 7 f__law_right fd__law_right ["_law_hand_here", "_law_scale_here", "_law_hues", "_law_turn", "_law_spot_here"] (SpH K preRt41 psiRt41))
    (g__law_right : mg "_law_right" = some (.ref f__law_right))
    {f__law_far_right : Addr} {fd__law_far_right : FuncData} (F__law_far_right : Fun K "_law_far_right" "_law_far_right" s__law_far_right f__law_far_right fd__law_far_right)
    (G__law_far_right : FnOk P w K mg base CX0 7 f__law_far_right fd__law_far_right ["_law_hand_here"] (SpH K preFr42 psiFr42))
    (g__law_far_right : mg "_law_far_right" = some (.ref f__law_far_right))
    (m_len : mg "len" = none)
    (m_max : mg "max" = none)
    (m_min : mg "min" = none)
    (m_range : mg "range" = none) :
    FnG P w K mg base CX0 8 f fd ["_law_script"] (SpP K preLaw0 fun _ => .bl true) := by
  refine okG F sc_law (fun vs H Q E h => ?len) (fun cdv A outer s H vs Q E hG hr h => ⟨_, (pss_cons (ps_for PassesOwn.never rfl (pi_range1 rfl m_range (pa_cons (pe_callB (call_max2 rfl) (by rfl) m_max (by decide +kernel) (pa_cons pe_int (pa_cons (pe_callB (call_min2 rfl) (by rfl) m_min (by decide +kernel) (pa_cons pe_int (pa_cons (pe_callB (show CallR _ _ (rLenQ K) from call_len_seq) (by rfl) m_len (by decide +kernel) (pa_cons (pv 0) pa_nil)) pa_nil))) pa_nil))) pa_nil)) (pg_name (i := 1) sc_law.nd rfl (by first | exact Or.inl rfl | exact Or.inr rfl)) (pss_cons (ps_set (i := 2) sc_law.nd rfl (by first | exact Or.inl rfl | exact Or.inr rfl) (pe_call G__law_hand (hr.mono (by decide)) (by rfl) g__law_hand F__law_hand.kp (bi__law_hand F__law_hand) .nil pass0 (pa_cons (pv 0) (pa_cons (pv 1) pa_nil))))
      (pss_cons (ps_for PassesOwn.never rfl (pi_range1 rfl m_range (pa_cons pe_int pa_nil)) (pg_name (i := 3) sc_law.nd rfl (by first | exact Or.inl rfl | exact Or.inr rfl)) (pss_cons (ps_asg (pe_call G__law_great (hr.mono (by decide)) (by rfl) g__law_great F__law_great.kp (bi__law_great F__law_great) .nil pass0 (pa_cons (pv 2) (pa_cons pe_int pa_nil))) (pg_tup rfl (pgs_cons (pg_name (i := 6) sc_law.nd rfl (by first | exact Or.inl rfl | exact Or.inr rfl)) (pgs_cons (pg_name (i := 7) sc_law.nd rfl (by first | exact Or.inl rfl | exact Or.inr rfl)) pgs_nil))))
      (pss_cons (ps_set (i := 4) sc_law.nd rfl (by first | exact Or.inl rfl | exact Or.inr rfl) (pe_call G__law_turning (hr.mono (by decide)) (by rfl) g__law_turning F__law_turning.kp (bi__law_turning F__law_turning) .nil pass0 (pa_cons (pv 2) (pa_cons (pv 6) (pa_cons (pv 7) pa_nil)))))
      (pss_one (ps_for PassesOwn.never rfl (pi_list (pe_call G__law_spots (hr.mono (by decide)) (by rfl) g__law_spots F__law_spots.kp (bi__law_spots F__law_spots) .nil pass0 (pa_cons (pv 2) (pa_cons (pv 6) (pa_cons (pe_callB (show CallR _ _ (rLenQ K) from call_len_seq) (by rfl) m_len (by decide +kernel) (pa_cons (pv 7) pa_nil)) (pa_cons pe_int pa_nil)))))) (pg_name (i := 5) sc_law.nd rfl (by first | exact Or.inl rfl | exact Or.inr rfl)) (pss_one (ps_if (pt_not (pt_val (pe_callG G__law_right hG (hr.mono (by decide)) (by rfl) g__law_right F__law_right.kp (bi__law_right F__law_right) .nil pass0 (pa_cons (pv 2) (pa_cons (pv 6) (pa_cons (pv 7) (pa_cons (pv 4) (pa_cons (pv 5) pa_nil)))))))) (pss_one (ps_ret pe_bl)) pss_nil)))))))
      (pss_one (ps_if (pt_not (pt_val (pe_call G__law_far_right (hr.mono (by decide)) (by rfl) g__law_far_right F__law_far_right.kp (bi__law_far_right F__law_far_right) .nil pass0 (pa_cons (pv 2) pa_nil)))) (pss_one (ps_ret pe_bl)) pss_nil)))))
      (pss_one (ps_ret pe_bl))), ?r⟩)
  case len =>
    obtain ⟨B, ds, _, is, ⟨d, rfl⟩, _⟩ := h
    exact is.length
  case r =>
    refine body_P h fun ds hp hl => ?_
    obtain ⟨ns, rfl⟩ := hp
    walk_at "body"
    refine s_seq (s_forR ?_)
    walk_at "ev"
    refine ⟨?_, ?_, fun t _ ρ' => ∃ x1 x3 x4 x5 x6 x7 : Option Sl, Sl.isHand x1 = false ∧ Sl.isHand x3 = false ∧ Sl.isHand x4 = false ∧ Sl.isHand x5 = false ∧ Sl.isHand x6 = false ∧ Sl.isHand x7 = false ∧
      ρ' = [some (.dat (.scr ns)), x1, none, x3, x4, x5, x6, x7], ?_, ?_, ?_⟩
    · split <;> split <;> omega
    · split <;> split <;> omega
    · exact ⟨none, none, none, none, none, none, rfl, rfl, rfl, rfl, rfl, rfl, rfl⟩
    · intro t n1 ρ' ht hI
      obtain ⟨x1, x3, x4, x5, x6, x7, g1, g3, g4, g5, g6, g7, rfl⟩ := hI
      have ht3 : t < 3 := by
        revert ht
        split <;> split <;> omega
      refine s_newHand (j := 0) (c := 1) rfl rfl ⟨ns, _, rfl, by omega, by omega⟩ (by simp [g3, g4, g5, g6, g7]) fun a => ?_
      walk_at "ro"
      refine s_seq (s_forRw ?_)
      walk_at "ev"
      refine ⟨2, 40000, [3, 4, 5, 6, 7], fun i xs => (xs.all fun s => !Sl.isHand s) = true, [_, _, _, _, _], by omega, by omega, rfl, rfl, by simp only [List.all_cons, List.all_nil, g3, g4, g5, g6, g7]; rfl, fun i n xs hi hn hx hI => ?_, fun n xs hn hx hI => ?_⟩
      · match xs, hx with
        | [z3, z4, z5, z6, z7], _ =>
        simp only [List.all_cons, List.all_nil, Bool.and_true, Bool.and_eq_true, Bool.not_eq_true'] at hI
        obtain ⟨j3, j4, j5, j6, j7⟩ := hI
        walk_at "ro"
        walk_at "ev"
        refine g_gt19 (n := 9) (by omega) (by omega) (by omega) fun m1 ms hs q1 hMQ hH hl16 => ?_
        have hM := hMQ.1
        have h16 := hH.2.1
        have h2 := hH.1
        refine ⟨_, _, rfl, ?_⟩
        walk_at "ro"
        walk_at "ev"
        refine g_turning (by omega) hM h16 fun m2 t5 q2 ht5 => ?_
        walk_at "ro"
        refine s_forLw ?_
        walk_at "ev"
        rw [dints_length]
        refine g_ss28 (k := 3) (by omega) hM h2 h16 (by omega) fun m3 S q3 hSl hSn hS0 hSp => ?_
        refine ⟨_, rfl, 400, [5], fun c xs => ∃ x5 : Option Sl, xs = [x5] ∧ Sl.isHand x5 = false, [_], rfl, rfl, ⟨_, rfl, j5⟩, fun c n2 d xs hd hn2 hx2 hI2 => ?_, fun n2 xs hn2 hx2 hI2 => ?_⟩
        · obtain ⟨x5, rfl, k5⟩ := hI2
          obtain ⟨p, hp, rfl⟩ : ∃ p, p ∈ S ∧ d = dspot p := by
            rw [List.getElem?_map, Option.map_eq_some_iff] at hd
            obtain ⟨y, h1, h2⟩ := hd
            exact ⟨y, List.mem_of_getElem? h1, h2.symm⟩
          have hc3 : c < 3 := by
            have := (List.getElem?_eq_some_iff.mp hd).1
            rw [List.length_map] at this
            omega
          walk_at "ro"
          walk_at "ev"
          refine ⟨⟨by omega, ms, hs, t5, p, rfl, hMQ, hH, ht5, hSp p hp⟩, fun m4 d q4 => ?_⟩
          obtain ⟨q5, rfl⟩ := q4
          walk_at "ev"
          exact ⟨by omega, [_], rfl, rfl, _, rfl, rfl⟩
        · obtain ⟨x5, rfl, k5⟩ := hI2
          rw [List.length_map] at hn2
          walk_at "ro"
          exact ⟨by omega, [_, _, _, _, _], rfl, rfl, by simp only [List.all_cons, List.all_nil, k5]; rfl⟩
      · match xs, hx with
        | [z3, z4, z5, z6, z7], _ =>
        simp only [List.all_cons, List.all_nil, Bool.and_true, Bool.and_eq_true, Bool.not_eq_true'] at hI
        obtain ⟨j3, j4, j5, j6, j7⟩ := hI
        walk_at "ro"
        walk_at "ev"
        refine ⟨⟨by omega, rfl⟩, fun m2 d q2 => ?_⟩
        obtain ⟨q3, rfl⟩ := q2
        walk_at "ev"
        exact ⟨by simp only [List.set_cons_succ, List.set_cons_zero, List.all_cons, List.all_nil, j3, j4, j5, j6, j7]; rfl, _, _, _, _, _, _, rfl, j3, j4, j5, j6, j7, rfl⟩
    · intro n1 ρ' hI
      exact s_ret (e_bl rfl)
end
theorem all_mk {l : PySem.W.OpenLaw} {w : World} {K : PySem.W.Frag} {h : Heap}
    {mg : Str → Option Value} {fa : Addr} (X : K.In h) (G : h.Ns mainGlobals mg)
    (hfa : mg "law" = some (.ref fa))
    {cFrame : Addr} (p0 : PySem.W.nsIn K mainGlobals "Frame" = some (some (.ref cFrame)))
    (q0g : PySem.W.plainGet K cFrame Str.empty = true)
    (q0h : PySem.W.hasDictIn K cFrame = true)
    (q0o : PySem.W.plainOver K cFrame = true)
    (q0s : PySem.W.findIn K (.ref cFrame) "__setattr__" = some (some (.builtin "object.__setattr__")))
    (q0m : PySem.W.makesIn K cFrame = true)
    (q0k : PySem.W.keepIn K (.ref cFrame) = true)
    (q0x : PySem.W.findIn K (.ref cFrame) "measure" = some none)
    (q0y : PySem.W.findIn K (.ref cFrame) "hues" = some none)
    {f0 : Addr} {od0 an0 : Option Addr} {sl0 : Array (Option Value)} {oc0 kV0 dc0 pm0 cd0 ct0 : Value}
    (a0 : PySem.W.nsIn K mainGlobals "is_whole" = some (some (.ref f0)))
    (l0 : K.lookup f0 = some ⟨oc0, od0, .func (PySem.W.fnOf "is_whole" "is_whole" (defArgs s_is_whole) (defBody s_is_whole) (defScope s_is_whole) .none kV0 dc0 pm0 an0 cd0 ct0), sl0⟩)
    (c0 : PySem.W.codeIn K cd0 "is_whole" = true) (k0 : PySem.W.keepIn K (.ref f0) = true)
    {f1 : Addr} {od1 an1 : Option Addr} {sl1 : Array (Option Value)} {oc1 kV1 dc1 pm1 cd1 ct1 : Value}
    (a1 : PySem.W.nsIn K mainGlobals "is_within" = some (some (.ref f1)))
    (l1 : K.lookup f1 = some ⟨oc1, od1, .func (PySem.W.fnOf "is_within" "is_within" (defArgs s_is_within) (defBody s_is_within) (defScope s_is_within) .none kV1 dc1 pm1 an1 cd1 ct1), sl1⟩)
    (c1 : PySem.W.codeIn K cd1 "is_within" = true) (k1 : PySem.W.keepIn K (.ref f1) = true)
    {f2 : Addr} {od2 an2 : Option Addr} {sl2 : Array (Option Value)} {oc2 kV2 dc2 pm2 cd2 ct2 : Value}
    (a2 : PySem.W.nsIn K mainGlobals "product" = some (some (.ref f2)))
    (l2 : K.lookup f2 = some ⟨oc2, od2, .func (PySem.W.fnOf "product" "product" (defArgs s_product) (defBody s_product) (defScope s_product) .none kV2 dc2 pm2 an2 cd2 ct2), sl2⟩)
    (c2 : PySem.W.codeIn K cd2 "product" = true) (k2 : PySem.W.keepIn K (.ref f2) = true)
    {f3 : Addr} {od3 an3 : Option Addr} {sl3 : Array (Option Value)} {oc3 kV3 dc3 pm3 cd3 ct3 : Value}
    (a3 : PySem.W.nsIn K mainGlobals "is_measure" = some (some (.ref f3)))
    (l3 : K.lookup f3 = some ⟨oc3, od3, .func (PySem.W.fnOf "is_measure" "is_measure" (defArgs s_is_measure) (defBody s_is_measure) (defScope s_is_measure) .none kV3 dc3 pm3 an3 cd3 ct3), sl3⟩)
    (c3 : PySem.W.codeIn K cd3 "is_measure" = true) (k3 : PySem.W.keepIn K (.ref f3) = true)
    {f4 : Addr} {od4 an4 : Option Addr} {sl4 : Array (Option Value)} {oc4 kV4 dc4 pm4 cd4 ct4 : Value}
    (a4 : PySem.W.nsIn K mainGlobals "nought" = some (some (.ref f4)))
    (l4 : K.lookup f4 = some ⟨oc4, od4, .func (PySem.W.fnOf "nought" "nought" (defArgs s_nought) (defBody s_nought) (defScope s_nought) .none kV4 dc4 pm4 an4 cd4 ct4), sl4⟩)
    (c4 : PySem.W.codeIn K cd4 "nought" = true) (k4 : PySem.W.keepIn K (.ref f4) = true)
    {f5 : Addr} {od5 an5 : Option Addr} {sl5 : Array (Option Value)} {oc5 kV5 dc5 pm5 cd5 ct5 : Value}
    (a5 : PySem.W.nsIn K mainGlobals "tie_sum" = some (some (.ref f5)))
    (l5 : K.lookup f5 = some ⟨oc5, od5, .func (PySem.W.fnOf "tie_sum" "tie_sum" (defArgs s_tie_sum) (defBody s_tie_sum) (defScope s_tie_sum) .none kV5 dc5 pm5 an5 cd5 ct5), sl5⟩)
    (c5 : PySem.W.codeIn K cd5 "tie_sum" = true) (k5 : PySem.W.keepIn K (.ref f5) = true)
    {f6 : Addr} {od6 an6 : Option Addr} {sl6 : Array (Option Value)} {oc6 kV6 dc6 pm6 cd6 ct6 : Value}
    (a6 : PySem.W.nsIn K mainGlobals "table_tie" = some (some (.ref f6)))
    (l6 : K.lookup f6 = some ⟨oc6, od6, .func (PySem.W.fnOf "table_tie" "table_tie" (defArgs s_table_tie) (defBody s_table_tie) (defScope s_table_tie) .none kV6 dc6 pm6 an6 cd6 ct6), sl6⟩)
    (c6 : PySem.W.codeIn K cd6 "table_tie" = true) (k6 : PySem.W.keepIn K (.ref f6) = true)
    {f7 : Addr} {od7 an7 : Option Addr} {sl7 : Array (Option Value)} {oc7 kV7 dc7 pm7 cd7 ct7 : Value}
    (a7 : PySem.W.nsIn K mainGlobals "lead_place" = some (some (.ref f7)))
    (l7 : K.lookup f7 = some ⟨oc7, od7, .func (PySem.W.fnOf "lead_place" "lead_place" (defArgs s_lead_place) (defBody s_lead_place) (defScope s_lead_place) .none kV7 dc7 pm7 an7 cd7 ct7), sl7⟩)
    (c7 : PySem.W.codeIn K cd7 "lead_place" = true) (k7 : PySem.W.keepIn K (.ref f7) = true)
    {f8 : Addr} {od8 an8 : Option Addr} {sl8 : Array (Option Value)} {oc8 kV8 dc8 pm8 cd8 ct8 : Value}
    (a8 : PySem.W.nsIn K mainGlobals "times_to" = some (some (.ref f8)))
    (l8 : K.lookup f8 = some ⟨oc8, od8, .func (PySem.W.fnOf "times_to" "times_to" (defArgs s_times_to) (defBody s_times_to) (defScope s_times_to) .none kV8 dc8 pm8 an8 cd8 ct8), sl8⟩)
    (c8 : PySem.W.codeIn K cd8 "times_to" = true) (k8 : PySem.W.keepIn K (.ref f8) = true)
    {f9 : Addr} {od9 an9 : Option Addr} {sl9 : Array (Option Value)} {oc9 kV9 dc9 pm9 cd9 ct9 : Value}
    (a9 : PySem.W.findIn K (.ref cFrame) "__init__" = some (some (.ref f9))) (b9 : PySem.W.isFn K (.ref f9) = true)
    (l9 : K.lookup f9 = some ⟨oc9, od9, .func (PySem.W.fnOf "__init__" "Frame.__init__" (defArgs s_Frame_init) (defBody s_Frame_init) (defScope s_Frame_init) .none kV9 dc9 pm9 an9 cd9 ct9), sl9⟩)
    (c9 : PySem.W.codeIn K cd9 "Frame.__init__" = true) (k9 : PySem.W.keepIn K (.ref f9) = true)
    {f10 : Addr} {od10 an10 : Option Addr} {sl10 : Array (Option Value)} {oc10 kV10 dc10 pm10 cd10 ct10 : Value}
    (a10 : PySem.W.findIn K (.ref cFrame) "stem_count" = some (some (.ref f10))) (b10 : PySem.W.isFn K (.ref f10) = true)
    (l10 : K.lookup f10 = some ⟨oc10, od10, .func (PySem.W.fnOf "stem_count" "Frame.stem_count" (defArgs s_Frame_stem_count) (defBody s_Frame_stem_count) (defScope s_Frame_stem_count) .none kV10 dc10 pm10 an10 cd10 ct10), sl10⟩)
    (c10 : PySem.W.codeIn K cd10 "Frame.stem_count" = true) (k10 : PySem.W.keepIn K (.ref f10) = true)
    {f11 : Addr} {od11 an11 : Option Addr} {sl11 : Array (Option Value)} {oc11 kV11 dc11 pm11 cd11 ct11 : Value}
    (a11 : PySem.W.nsIn K mainGlobals "are_hues" = some (some (.ref f11)))
    (l11 : K.lookup f11 = some ⟨oc11, od11, .func (PySem.W.fnOf "are_hues" "are_hues" (defArgs s_are_hues) (defBody s_are_hues) (defScope s_are_hues) .none kV11 dc11 pm11 an11 cd11 ct11), sl11⟩)
    (c11 : PySem.W.codeIn K cd11 "are_hues" = true) (k11 : PySem.W.keepIn K (.ref f11) = true)
    {f12 : Addr} {od12 an12 : Option Addr} {sl12 : Array (Option Value)} {oc12 kV12 dc12 pm12 cd12 ct12 : Value}
    (a12 : PySem.W.nsIn K mainGlobals "is_hue" = some (some (.ref f12)))
    (l12 : K.lookup f12 = some ⟨oc12, od12, .func (PySem.W.fnOf "is_hue" "is_hue" (defArgs s_is_hue) (defBody s_is_hue) (defScope s_is_hue) .none kV12 dc12 pm12 an12 cd12 ct12), sl12⟩)
    (c12 : PySem.W.codeIn K cd12 "is_hue" = true) (k12 : PySem.W.keepIn K (.ref f12) = true)
    {f13 : Addr} {od13 an13 : Option Addr} {sl13 : Array (Option Value)} {oc13 kV13 dc13 pm13 cd13 ct13 : Value}
    (a13 : PySem.W.nsIn K mainGlobals "_law_hand" = some (some (.ref f13)))
    (l13 : K.lookup f13 = some ⟨oc13, od13, .func (PySem.W.fnOf "_law_hand" "_law_hand" (defArgs s__law_hand) (defBody s__law_hand) (defScope s__law_hand) .none kV13 dc13 pm13 an13 cd13 ct13), sl13⟩)
    (c13 : PySem.W.codeIn K cd13 "_law_hand" = true) (k13 : PySem.W.keepIn K (.ref f13) = true)
    {f14 : Addr} {od14 an14 : Option Addr} {sl14 : Array (Option Value)} {oc14 kV14 dc14 pm14 cd14 ct14 : Value}
    (a14 : PySem.W.nsIn K mainGlobals "_law_take" = some (some (.ref f14)))
    (l14 : K.lookup f14 = some ⟨oc14, od14, .func (PySem.W.fnOf "_law_take" "_law_take" (defArgs s__law_take) (defBody s__law_take) (defScope s__law_take) .none kV14 dc14 pm14 an14 cd14 ct14), sl14⟩)
    (c14 : PySem.W.codeIn K cd14 "_law_take" = true) (k14 : PySem.W.keepIn K (.ref f14) = true)
    {f15 : Addr} {od15 an15 : Option Addr} {sl15 : Array (Option Value)} {oc15 kV15 dc15 pm15 cd15 ct15 : Value}
    (a15 : PySem.W.nsIn K mainGlobals "_law_of" = some (some (.ref f15)))
    (l15 : K.lookup f15 = some ⟨oc15, od15, .func (PySem.W.fnOf "_law_of" "_law_of" (defArgs s__law_of) (defBody s__law_of) (defScope s__law_of) .none kV15 dc15 pm15 an15 cd15 ct15), sl15⟩)
    (c15 : PySem.W.codeIn K cd15 "_law_of" = true) (k15 : PySem.W.keepIn K (.ref f15) = true)
    {f16 : Addr} {od16 an16 : Option Addr} {sl16 : Array (Option Value)} {oc16 kV16 dc16 pm16 cd16 ct16 : Value}
    (a16 : PySem.W.nsIn K mainGlobals "_law_mixed" = some (some (.ref f16)))
    (l16 : K.lookup f16 = some ⟨oc16, od16, .func (PySem.W.fnOf "_law_mixed" "_law_mixed" (defArgs s__law_mixed) (defBody s__law_mixed) (defScope s__law_mixed) .none kV16 dc16 pm16 an16 cd16 ct16), sl16⟩)
    (c16 : PySem.W.codeIn K cd16 "_law_mixed" = true) (k16 : PySem.W.keepIn K (.ref f16) = true)
    {f17 : Addr} {od17 an17 : Option Addr} {sl17 : Array (Option Value)} {oc17 kV17 dc17 pm17 cd17 ct17 : Value}
    (a17 : PySem.W.nsIn K mainGlobals "_law_scale" = some (some (.ref f17)))
    (l17 : K.lookup f17 = some ⟨oc17, od17, .func (PySem.W.fnOf "_law_scale" "_law_scale" (defArgs s__law_scale) (defBody s__law_scale) (defScope s__law_scale) .none kV17 dc17 pm17 an17 cd17 ct17), sl17⟩)
    (c17 : PySem.W.codeIn K cd17 "_law_scale" = true) (k17 : PySem.W.keepIn K (.ref f17) = true)
    {f18 : Addr} {od18 an18 : Option Addr} {sl18 : Array (Option Value)} {oc18 kV18 dc18 pm18 cd18 ct18 : Value}
    (a18 : PySem.W.nsIn K mainGlobals "_law_colours" = some (some (.ref f18)))
    (l18 : K.lookup f18 = some ⟨oc18, od18, .func (PySem.W.fnOf "_law_colours" "_law_colours" (defArgs s__law_colours) (defBody s__law_colours) (defScope s__law_colours) .none kV18 dc18 pm18 an18 cd18 ct18), sl18⟩)
    (c18 : PySem.W.codeIn K cd18 "_law_colours" = true) (k18 : PySem.W.keepIn K (.ref f18) = true)
    {f19 : Addr} {od19 an19 : Option Addr} {sl19 : Array (Option Value)} {oc19 kV19 dc19 pm19 cd19 ct19 : Value}
    (a19 : PySem.W.nsIn K mainGlobals "_law_knot" = some (some (.ref f19)))
    (l19 : K.lookup f19 = some ⟨oc19, od19, .func (PySem.W.fnOf "_law_knot" "_law_knot" (defArgs s__law_knot) (defBody s__law_knot) (defScope s__law_knot) .none kV19 dc19 pm19 an19 cd19 ct19), sl19⟩)
    (c19 : PySem.W.codeIn K cd19 "_law_knot" = true) (k19 : PySem.W.keepIn K (.ref f19) = true)
    {f20 : Addr} {od20 an20 : Option Addr} {sl20 : Array (Option Value)} {oc20 kV20 dc20 pm20 cd20 ct20 : Value}
    (a20 : PySem.W.nsIn K mainGlobals "_law_grid" = some (some (.ref f20)))
    (l20 : K.lookup f20 = some ⟨oc20, od20, .func (PySem.W.fnOf "_law_grid" "_law_grid" (defArgs s__law_grid) (defBody s__law_grid) (defScope s__law_grid) .none kV20 dc20 pm20 an20 cd20 ct20), sl20⟩)
    (c20 : PySem.W.codeIn K cd20 "_law_grid" = true) (k20 : PySem.W.keepIn K (.ref f20) = true)
    {f21 : Addr} {od21 an21 : Option Addr} {sl21 : Array (Option Value)} {oc21 kV21 dc21 pm21 cd21 ct21 : Value}
    (a21 : PySem.W.nsIn K mainGlobals "_law_spot" = some (some (.ref f21)))
    (l21 : K.lookup f21 = some ⟨oc21, od21, .func (PySem.W.fnOf "_law_spot" "_law_spot" (defArgs s__law_spot) (defBody s__law_spot) (defScope s__law_spot) .none kV21 dc21 pm21 an21 cd21 ct21), sl21⟩)
    (c21 : PySem.W.codeIn K cd21 "_law_spot" = true) (k21 : PySem.W.keepIn K (.ref f21) = true)
    {f22 : Addr} {od22 an22 : Option Addr} {sl22 : Array (Option Value)} {oc22 kV22 dc22 pm22 cd22 ct22 : Value}
    (a22 : PySem.W.nsIn K mainGlobals "_law_leads" = some (some (.ref f22)))
    (l22 : K.lookup f22 = some ⟨oc22, od22, .func (PySem.W.fnOf "_law_leads" "_law_leads" (defArgs s__law_leads) (defBody s__law_leads) (defScope s__law_leads) .none kV22 dc22 pm22 an22 cd22 ct22), sl22⟩)
    (c22 : PySem.W.codeIn K cd22 "_law_leads" = true) (k22 : PySem.W.keepIn K (.ref f22) = true)
    {f23 : Addr} {od23 an23 : Option Addr} {sl23 : Array (Option Value)} {oc23 kV23 dc23 pm23 cd23 ct23 : Value}
    (a23 : PySem.W.nsIn K mainGlobals "_law_turning" = some (some (.ref f23)))
    (l23 : K.lookup f23 = some ⟨oc23, od23, .func (PySem.W.fnOf "_law_turning" "_law_turning" (defArgs s__law_turning) (defBody s__law_turning) (defScope s__law_turning) .none kV23 dc23 pm23 an23 cd23 ct23), sl23⟩)
    (c23 : PySem.W.codeIn K cd23 "_law_turning" = true) (k23 : PySem.W.keepIn K (.ref f23) = true)
    {f24 : Addr} {od24 an24 : Option Addr} {sl24 : Array (Option Value)} {oc24 kV24 dc24 pm24 cd24 ct24 : Value}
    (a24 : PySem.W.nsIn K mainGlobals "_law_sum" = some (some (.ref f24)))
    (l24 : K.lookup f24 = some ⟨oc24, od24, .func (PySem.W.fnOf "_law_sum" "_law_sum" (defArgs s__law_sum) (defBody s__law_sum) (defScope s__law_sum) .none kV24 dc24 pm24 an24 cd24 ct24), sl24⟩)
    (c24 : PySem.W.codeIn K cd24 "_law_sum" = true) (k24 : PySem.W.keepIn K (.ref f24) = true)
    {f25 : Addr} {od25 an25 : Option Addr} {sl25 : Array (Option Value)} {oc25 kV25 dc25 pm25 cd25 ct25 : Value}
    (a25 : PySem.W.nsIn K mainGlobals "_law_at" = some (some (.ref f25)))
    (l25 : K.lookup f25 = some ⟨oc25, od25, .func (PySem.W.fnOf "_law_at" "_law_at" (defArgs s__law_at) (defBody s__law_at) (defScope s__law_at) .none kV25 dc25 pm25 an25 cd25 ct25), sl25⟩)
    (c25 : PySem.W.codeIn K cd25 "_law_at" = true) (k25 : PySem.W.keepIn K (.ref f25) = true)
    {f26 : Addr} {od26 an26 : Option Addr} {sl26 : Array (Option Value)} {oc26 kV26 dc26 pm26 cd26 ct26 : Value}
    (a26 : PySem.W.nsIn K mainGlobals "_law_led" = some (some (.ref f26)))
    (l26 : K.lookup f26 = some ⟨oc26, od26, .func (PySem.W.fnOf "_law_led" "_law_led" (defArgs s__law_led) (defBody s__law_led) (defScope s__law_led) .none kV26 dc26 pm26 an26 cd26 ct26), sl26⟩)
    (c26 : PySem.W.codeIn K cd26 "_law_led" = true) (k26 : PySem.W.keepIn K (.ref f26) = true)
    {f27 : Addr} {od27 an27 : Option Addr} {sl27 : Array (Option Value)} {oc27 kV27 dc27 pm27 cd27 ct27 : Value}
    (a27 : PySem.W.nsIn K mainGlobals "_law_still" = some (some (.ref f27)))
    (l27 : K.lookup f27 = some ⟨oc27, od27, .func (PySem.W.fnOf "_law_still" "_law_still" (defArgs s__law_still) (defBody s__law_still) (defScope s__law_still) .none kV27 dc27 pm27 an27 cd27 ct27), sl27⟩)
    (c27 : PySem.W.codeIn K cd27 "_law_still" = true) (k27 : PySem.W.keepIn K (.ref f27) = true)
    {f28 : Addr} {od28 an28 : Option Addr} {sl28 : Array (Option Value)} {oc28 kV28 dc28 pm28 cd28 ct28 : Value}
    (a28 : PySem.W.nsIn K mainGlobals "_law_spots" = some (some (.ref f28)))
    (l28 : K.lookup f28 = some ⟨oc28, od28, .func (PySem.W.fnOf "_law_spots" "_law_spots" (defArgs s__law_spots) (defBody s__law_spots) (defScope s__law_spots) .none kV28 dc28 pm28 an28 cd28 ct28), sl28⟩)
    (c28 : PySem.W.codeIn K cd28 "_law_spots" = true) (k28 : PySem.W.keepIn K (.ref f28) = true)
    {f29 : Addr} {od29 an29 : Option Addr} {sl29 : Array (Option Value)} {oc29 kV29 dc29 pm29 cd29 ct29 : Value}
    (a29 : PySem.W.nsIn K mainGlobals "_law_ring" = some (some (.ref f29)))
    (l29 : K.lookup f29 = some ⟨oc29, od29, .func (PySem.W.fnOf "_law_ring" "_law_ring" (defArgs s__law_ring) (defBody s__law_ring) (defScope s__law_ring) .none kV29 dc29 pm29 an29 cd29 ct29), sl29⟩)
    (c29 : PySem.W.codeIn K cd29 "_law_ring" = true) (k29 : PySem.W.keepIn K (.ref f29) = true)
    {f30 : Addr} {od30 an30 : Option Addr} {sl30 : Array (Option Value)} {oc30 kV30 dc30 pm30 cd30 ct30 : Value}
    (a30 : PySem.W.nsIn K mainGlobals "_law_great" = some (some (.ref f30)))
    (l30 : K.lookup f30 = some ⟨oc30, od30, .func (PySem.W.fnOf "_law_great" "_law_great" (defArgs s__law_great) (defBody s__law_great) (defScope s__law_great) .none kV30 dc30 pm30 an30 cd30 ct30), sl30⟩)
    (c30 : PySem.W.codeIn K cd30 "_law_great" = true) (k30 : PySem.W.keepIn K (.ref f30) = true)
    {f31 : Addr} {od31 an31 : Option Addr} {sl31 : Array (Option Value)} {oc31 kV31 dc31 pm31 cd31 ct31 : Value}
    (a31 : PySem.W.nsIn K mainGlobals "_law_long" = some (some (.ref f31)))
    (l31 : K.lookup f31 = some ⟨oc31, od31, .func (PySem.W.fnOf "_law_long" "_law_long" (defArgs s__law_long) (defBody s__law_long) (defScope s__law_long) .none kV31 dc31 pm31 an31 cd31 ct31), sl31⟩)
    (c31 : PySem.W.codeIn K cd31 "_law_long" = true) (k31 : PySem.W.keepIn K (.ref f31) = true)
    {f32 : Addr} {od32 an32 : Option Addr} {sl32 : Array (Option Value)} {oc32 kV32 dc32 pm32 cd32 ct32 : Value}
    (a32 : PySem.W.nsIn K mainGlobals "_law_right" = some (some (.ref f32)))
    (l32 : K.lookup f32 = some ⟨oc32, od32, .func (PySem.W.fnOf "_law_right" "_law_right" (defArgs s__law_right) (defBody s__law_right) (defScope s__law_right) .none kV32 dc32 pm32 an32 cd32 ct32), sl32⟩)
    (c32 : PySem.W.codeIn K cd32 "_law_right" = true) (k32 : PySem.W.keepIn K (.ref f32) = true)
    {f33 : Addr} {od33 an33 : Option Addr} {sl33 : Array (Option Value)} {oc33 kV33 dc33 pm33 cd33 ct33 : Value}
    (a33 : PySem.W.nsIn K mainGlobals "_law_far_right" = some (some (.ref f33)))
    (l33 : K.lookup f33 = some ⟨oc33, od33, .func (PySem.W.fnOf "_law_far_right" "_law_far_right" (defArgs s__law_far_right) (defBody s__law_far_right) (defScope s__law_far_right) .none kV33 dc33 pm33 an33 cd33 ct33), sl33⟩)
    (c33 : PySem.W.codeIn K cd33 "_law_far_right" = true) (k33 : PySem.W.keepIn K (.ref f33) = true)
    {f34 : Addr} {od34 an34 : Option Addr} {sl34 : Array (Option Value)} {oc34 kV34 dc34 pm34 cd34 ct34 : Value}
    (a34 : PySem.W.nsIn K mainGlobals "law" = some (some (.ref f34)))
    (l34 : K.lookup f34 = some ⟨oc34, od34, .func (PySem.W.fnOf "law" "law" (defArgs s_law) (defBody s_law) (defScope s_law) .none kV34 dc34 pm34 an34 cd34 ct34), sl34⟩)
    (c34 : PySem.W.codeIn K cd34 "law" = true) (k34 : PySem.W.keepIn K (.ref f34) = true)
    {t0 : Tok} (v0 : PySem.W.nsIn K mainGlobals "LEAST_NUMBER" = some (some (.int 2 t0)))
    {t1 : Tok} (v1 : PySem.W.nsIn K mainGlobals "LEAST_STEMS" = some (some (.int 2 t1)))
    {t2 : Tok} (v2 : PySem.W.nsIn K mainGlobals "MOST_HUE" = some (some (.int 9 t2)))
    {t3 : Tok} (v3 : PySem.W.nsIn K mainGlobals "MOST_NUMBER" = some (some (.int 5 t3)))
    {t4 : Tok} (v4 : PySem.W.nsIn K mainGlobals "MOST_NUMBERS" = some (some (.int 3 t4)))
    {t5 : Tok} (v5 : PySem.W.nsIn K mainGlobals "MOST_STEMS" = some (some (.int 16 t5)))
    {t6 : Tok} (v6 : PySem.W.nsIn K mainGlobals "MOST_TIES" = some (some (.int 30 t6)))
    (z0 : PySem.W.nsIn K mainGlobals "abs" = some none)
    (z1 : PySem.W.nsIn K mainGlobals "all" = some none)
    (z2 : PySem.W.nsIn K mainGlobals "bool" = some none)
    (z3 : PySem.W.nsIn K mainGlobals "dict" = some none)
    (z4 : PySem.W.nsIn K mainGlobals "enumerate" = some none)
    (z5 : PySem.W.nsIn K mainGlobals "int" = some none)
    (z6 : PySem.W.nsIn K mainGlobals "isinstance" = some none)
    (z7 : PySem.W.nsIn K mainGlobals "len" = some none)
    (z8 : PySem.W.nsIn K mainGlobals "list" = some none)
    (z9 : PySem.W.nsIn K mainGlobals "max" = some none)
    (z10 : PySem.W.nsIn K mainGlobals "min" = some none)
    (z11 : PySem.W.nsIn K mainGlobals "range" = some none)
    (z12 : PySem.W.nsIn K mainGlobals "repr" = some none)
    (z13 : PySem.W.nsIn K mainGlobals "tuple" = some none)
    (z14 : PySem.W.nsIn K mainGlobals "zip" = some none)
    : ∃ fd : FuncData, (∀ (s : Shared) (v : Value), BindsTo s fd ⟨[v], []⟩ [("_law_script", v)]) ∧
      ∀ base : Heap, K.In base → base.Ns mainGlobals mg → FnG l.prog w K mg base CX0 8 fa fd ["_law_script"] (SpP K preLaw0 fun _ => .bl true) := by
  have F_is_whole := fun_mk (st := s_is_whole) l0 c0 k0
  have g_is_whole := PySem.W.mg_of X G a0
  have F_is_within := fun_mk (st := s_is_within) l1 c1 k1
  have g_is_within := PySem.W.mg_of X G a1
  have F_product := fun_mk (st := s_product) l2 c2 k2
  have g_product := PySem.W.mg_of X G a2
  have F_is_measure := fun_mk (st := s_is_measure) l3 c3 k3
  have g_is_measure := PySem.W.mg_of X G a3
  have F_nought := fun_mk (st := s_nought) l4 c4 k4
  have g_nought := PySem.W.mg_of X G a4
  have F_tie_sum := fun_mk (st := s_tie_sum) l5 c5 k5
  have g_tie_sum := PySem.W.mg_of X G a5
  have F_table_tie := fun_mk (st := s_table_tie) l6 c6 k6
  have g_table_tie := PySem.W.mg_of X G a6
  have F_lead_place := fun_mk (st := s_lead_place) l7 c7 k7
  have g_lead_place := PySem.W.mg_of X G a7
  have F_times_to := fun_mk (st := s_times_to) l8 c8 k8
  have g_times_to := PySem.W.mg_of X G a8
  have F_Frame_init := fun_mk (st := s_Frame_init) l9 c9 k9
  have M_Frame : Mk K cFrame f9 := ⟨q0m, a9, b9, q0k⟩
  have F_Frame_stem_count := fun_mk (st := s_Frame_stem_count) l10 c10 k10
  have e_Frame_stem_count : Meth K cFrame "stem_count" f10 := ⟨a10, b10, k10⟩
  have F_are_hues := fun_mk (st := s_are_hues) l11 c11 k11
  have g_are_hues := PySem.W.mg_of X G a11
  have F_is_hue := fun_mk (st := s_is_hue) l12 c12 k12
  have g_is_hue := PySem.W.mg_of X G a12
  have F__law_hand := fun_mk (st := s__law_hand) l13 c13 k13
  have g__law_hand := PySem.W.mg_of X G a13
  have F__law_take := fun_mk (st := s__law_take) l14 c14 k14
  have g__law_take := PySem.W.mg_of X G a14
  have F__law_of := fun_mk (st := s__law_of) l15 c15 k15
  have g__law_of := PySem.W.mg_of X G a15
  have F__law_mixed := fun_mk (st := s__law_mixed) l16 c16 k16
  have g__law_mixed := PySem.W.mg_of X G a16
  have F__law_scale := fun_mk (st := s__law_scale) l17 c17 k17
  have g__law_scale := PySem.W.mg_of X G a17
  have F__law_colours := fun_mk (st := s__law_colours) l18 c18 k18
  have g__law_colours := PySem.W.mg_of X G a18
  have F__law_knot := fun_mk (st := s__law_knot) l19 c19 k19
  have g__law_knot := PySem.W.mg_of X G a19
  have F__law_grid := fun_mk (st := s__law_grid) l20 c20 k20
  have g__law_grid := PySem.W.mg_of X G a20
  have F__law_spot := fun_mk (st := s__law_spot) l21 c21 k21
  have g__law_spot := PySem.W.mg_of X G a21
  have F__law_leads := fun_mk (st := s__law_leads) l22 c22 k22
  have g__law_leads := PySem.W.mg_of X G a22
  have F__law_turning := fun_mk (st := s__law_turning) l23 c23 k23
  have g__law_turning := PySem.W.mg_of X G a23
  have F__law_sum := fun_mk (st := s__law_sum) l24 c24 k24
  have g__law_sum := PySem.W.mg_of X G a24
  have F__law_at := fun_mk (st := s__law_at) l25 c25 k25
  have g__law_at := PySem.W.mg_of X G a25
  have F__law_led := fun_mk (st := s__law_led) l26 c26 k26
  have g__law_led := PySem.W.mg_of X G a26
  have F__law_still := fun_mk (st := s__law_still) l27 c27 k27
  have g__law_still := PySem.W.mg_of X G a27
  have F__law_spots := fun_mk (st := s__law_spots) l28 c28 k28
  have g__law_spots := PySem.W.mg_of X G a28
  have F__law_ring := fun_mk (st := s__law_ring) l29 c29 k29
  have g__law_ring := PySem.W.mg_of X G a29
  have F__law_great := fun_mk (st := s__law_great) l30 c30 k30
  have g__law_great := PySem.W.mg_of X G a30
  have F__law_long := fun_mk (st := s__law_long) l31 c31 k31
  have g__law_long := PySem.W.mg_of X G a31
  have F__law_right := fun_mk (st := s__law_right) l32 c32 k32
  have g__law_right := PySem.W.mg_of X G a32
  have F__law_far_right := fun_mk (st := s__law_far_right) l33 c33 k33
  have g__law_far_right := PySem.W.mg_of X G a33
  have F_law := fun_mk (st := s_law) l34 c34 k34
  have g_law := PySem.W.mg_of X G a34
  have g_Frame := PySem.W.mg_of X G p0
  have k_Frame : Own2 K cFrame "measure" "hues" := ⟨⟨q0g, q0h, q0o, q0s⟩, q0x, q0y⟩
  have c_LEAST_NUMBER := PySem.W.mg_of X G v0
  have c_LEAST_STEMS := PySem.W.mg_of X G v1
  have c_MOST_HUE := PySem.W.mg_of X G v2
  have c_MOST_NUMBER := PySem.W.mg_of X G v3
  have c_MOST_NUMBERS := PySem.W.mg_of X G v4
  have c_MOST_STEMS := PySem.W.mg_of X G v5
  have c_MOST_TIES := PySem.W.mg_of X G v6
  have m_abs := PySem.W.mg_none_of X G z0
  have m_all := PySem.W.mg_none_of X G z1
  have m_bool := PySem.W.mg_none_of X G z2
  have m_dict := PySem.W.mg_none_of X G z3
  have m_enumerate := PySem.W.mg_none_of X G z4
  have m_int := PySem.W.mg_none_of X G z5
  have m_isinstance := PySem.W.mg_none_of X G z6
  have m_len := PySem.W.mg_none_of X G z7
  have m_list := PySem.W.mg_none_of X G z8
  have m_max := PySem.W.mg_none_of X G z9
  have m_min := PySem.W.mg_none_of X G z10
  have m_range := PySem.W.mg_none_of X G z11
  have m_repr := PySem.W.mg_none_of X G z12
  have m_tuple := PySem.W.mg_none_of X G z13
  have m_zip := PySem.W.mg_none_of X G z14
  have e := hfa.symm.trans g_law
  cases e
  refine ⟨PySem.W.fnOf "law" "law" (defArgs s_law) (defBody s_law) (defScope s_law) .none kV34 dc34 pm34 an34 cd34 ct34, fun s v => .of_eq rfl, fun base _ _ => ?_⟩
  have G_is_whole := ok_is_whole (P := l.prog) (w := w) (mg := mg) (base := base) F_is_whole m_bool m_int m_isinstance
  have G_product := ok_product (P := l.prog) (w := w) (mg := mg) (base := base) F_product
  have G_nought := ok_nought (P := l.prog) (w := w) (mg := mg) (base := base) F_nought m_len
  have G_tie_sum := ok_tie_sum (P := l.prog) (w := w) (mg := mg) (base := base) F_tie_sum m_tuple m_zip
  have G_table_tie := ok_table_tie (P := l.prog) (w := w) (mg := mg) (base := base) F_table_tie m_max m_min
  have G_Frame_stem_count := ok_Frame_stem_count (P := l.prog) (w := w) (mg := mg) (base := base) F_Frame_stem_count k_Frame m_len
  have G__law_hand := ok__law_hand (P := l.prog) (w := w) (mg := mg) (base := base) F__law_hand m_abs m_int m_len
  have G__law_take := ok__law_take (P := l.prog) (w := w) (mg := mg) (base := base) F__law_take
  have G__law_sum := ok__law_sum (P := l.prog) (w := w) (mg := mg) (base := base) F__law_sum m_tuple m_zip
  have G__law_at := ok__law_at (P := l.prog) (w := w) (mg := mg) (base := base) F__law_at
  have G__law_still := ok__law_still (P := l.prog) (w := w) (mg := mg) (base := base) F__law_still m_len m_range m_tuple
  have G_is_within := ok_is_within (P := l.prog) (w := w) (mg := mg) (base := base) F_is_within F_is_whole G_is_whole g_is_whole
  have G_lead_place := ok_lead_place (P := l.prog) (w := w) (mg := mg) (base := base) F_lead_place F_nought G_nought g_nought F_tie_sum G_tie_sum g_tie_sum F_table_tie G_table_tie g_table_tie F_Frame_stem_count G_Frame_stem_count k_Frame e_Frame_stem_count m_enumerate m_tuple
  have G__law_of := ok__law_of (P := l.prog) (w := w) (mg := mg) (base := base) F__law_of F__law_take G__law_take g__law_take m_len
  have G__law_mixed := ok__law_mixed (P := l.prog) (w := w) (mg := mg) (base := base) F__law_mixed F__law_take G__law_take g__law_take m_len m_list
  have G__law_knot := ok__law_knot (P := l.prog) (w := w) (mg := mg) (base := base) F__law_knot F__law_take G__law_take g__law_take m_tuple
  have G__law_led := ok__law_led (P := l.prog) (w := w) (mg := mg) (base := base) F__law_led F__law_sum G__law_sum g__law_sum F__law_at G__law_at g__law_at m_len m_range m_tuple
  have G_is_measure := ok_is_measure (P := l.prog) (w := w) (mg := mg) (base := base) F_is_measure F_is_within G_is_within g_is_within F_product G_product g_product c_LEAST_NUMBER c_MOST_NUMBER c_MOST_NUMBERS c_MOST_TIES m_all m_isinstance m_len m_tuple
  have G_times_to := ok_times_to (P := l.prog) (w := w) (mg := mg) (base := base) F_times_to F_lead_place G_lead_place g_lead_place
  have G_is_hue := ok_is_hue (P := l.prog) (w := w) (mg := mg) (base := base) F_is_hue F_is_within G_is_within g_is_within c_MOST_HUE
  have G__law_scale := ok__law_scale (P := l.prog) (w := w) (mg := mg) (base := base) F__law_scale F__law_of G__law_of g__law_of
  have G__law_colours := ok__law_colours (P := l.prog) (w := w) (mg := mg) (base := base) F__law_colours F__law_take G__law_take g__law_take F__law_of G__law_of g__law_of m_range m_tuple
  have G__law_grid := ok__law_grid (P := l.prog) (w := w) (mg := mg) (base := base) F__law_grid F__law_take G__law_take g__law_take F__law_knot G__law_knot g__law_knot m_len m_range m_tuple
  have G__law_spot := ok__law_spot (P := l.prog) (w := w) (mg := mg) (base := base) F__law_spot F__law_knot G__law_knot g__law_knot m_len m_range m_tuple
  have G__law_leads := ok__law_leads (P := l.prog) (w := w) (mg := mg) (base := base) F__law_leads F__law_mixed G__law_mixed g__law_mixed m_dict m_len m_range m_tuple
  have G__law_spots := ok__law_spots (P := l.prog) (w := w) (mg := mg) (base := base) F__law_spots F__law_take G__law_take g__law_take F__law_of G__law_of g__law_of F__law_knot G__law_knot g__law_knot m_len m_list m_range m_tuple
  have G__law_ring := ok__law_ring (P := l.prog) (w := w) (mg := mg) (base := base) F__law_ring F__law_led G__law_led g__law_led
  have G__law_long := ok__law_long (P := l.prog) (w := w) (mg := mg) (base := base) F__law_long F__law_take G__law_take g__law_take F__law_mixed G__law_mixed g__law_mixed F__law_still G__law_still g__law_still m_enumerate m_len m_list m_max m_min m_range m_tuple
  have G_are_hues := ok_are_hues (P := l.prog) (w := w) (mg := mg) (base := base) F_are_hues F_is_within G_is_within g_is_within F_is_hue G_is_hue g_is_hue c_LEAST_STEMS c_MOST_STEMS m_all m_isinstance m_len m_tuple
  have G__law_turning := ok__law_turning (P := l.prog) (w := w) (mg := mg) (base := base) F__law_turning F__law_grid G__law_grid g__law_grid F__law_leads G__law_leads g__law_leads m_len
  have G__law_great := ok__law_great (P := l.prog) (w := w) (mg := mg) (base := base) F__law_great F__law_scale G__law_scale g__law_scale F__law_colours G__law_colours g__law_colours
  have G_Frame_init := ok_Frame_init (P := l.prog) (w := w) (mg := mg) (base := base) F_Frame_init F_is_measure G_is_measure g_is_measure F_are_hues G_are_hues g_are_hues k_Frame
  have G__law_right := ok__law_right (P := l.prog) (w := w) (mg := mg) (base := base) F__law_right F_times_to G_times_to g_times_to F_Frame_init G_Frame_init F__law_take G__law_take g__law_take F__law_knot G__law_knot g__law_knot F__law_spot G__law_spot g__law_spot F__law_ring G__law_ring g__law_ring M_Frame g_Frame m_int m_len m_repr
  have G__law_far_right := ok__law_far_right (P := l.prog) (w := w) (mg := mg) (base := base) F__law_far_right F_times_to G_times_to g_times_to F_Frame_init G_Frame_init F__law_take G__law_take g__law_take F__law_ring G__law_ring g__law_ring F__law_long G__law_long g__law_long M_Frame g_Frame m_len m_range m_tuple
  exact ok_law F_law F__law_hand G__law_hand g__law_hand F__law_turning G__law_turning g__law_turning F__law_spots G__law_spots g__law_spots F__law_great G__law_great g__law_great F__law_right G__law_right g__law_right F__law_far_right G__law_far_right g__law_far_right m_len m_max m_min m_range
end Wl
open PySem PySem.W PyProof.Rows
set_option maxHeartbeats 0 in
theorem PySem.Challenge.cw_wholeturn_k41_least_times_to_a_place_holds : PySem.Challenge.rw_wholeturn_k41_least_times_to_a_place.Holds := by
  refine HdL.hd ?_
  k_fill
  refine Wt.walkG (l := PySem.Challenge.rw_wholeturn_k41_least_times_to_a_place) (n := 63) (k := 8) (x := "_law_script")
    (sp := fun K => (Wt.SpP K Wl.preLaw0 fun _ => .bl true)) rfl (by decide) rfl ⟨rfl, by decide, by decide⟩
    (fun w h Y => PySem.W.kIn_of Y) ?F (fun _ _ _ _ _ hO hS => Wt.law_start hO hS)
  case F =>
    intro w mg fa h KX G hmg
    refine' Wl.all_mk KX G hmg ?p0 ?q0g ?q0h ?q0o ?q0s ?q0m ?q0k ?q0x ?q0y ?a0 ?l0 ?c0 ?k0 ?a1 ?l1 ?c1 ?k1 ?a2 ?l2 ?c2 ?k2 ?a3 ?l3 ?c3 ?k3 ?a4 ?l4 ?c4 ?k4 ?a5 ?l5 ?c5 ?k5 ?a6 ?l6 ?c6 ?k6 ?a7 ?l7 ?c7 ?k7 ?a8 ?l8 ?c8 ?k8 ?a9 ?b9 ?l9 ?c9 ?k9 ?a10 ?b10 ?l10 ?c10 ?k10 ?a11 ?l11 ?c11 ?k11 ?a12 ?l12 ?c12 ?k12 ?a13 ?l13 ?c13 ?k13 ?a14 ?l14 ?c14 ?k14 ?a15 ?l15 ?c15 ?k15 ?a16 ?l16 ?c16 ?k16 ?a17 ?l17 ?c17 ?k17 ?a18 ?l18 ?c18 ?k18 ?a19 ?l19 ?c19 ?k19 ?a20 ?l20 ?c20 ?k20 ?a21 ?l21 ?c21 ?k21 ?a22 ?l22 ?c22 ?k22 ?a23 ?l23 ?c23 ?k23 ?a24 ?l24 ?c24 ?k24 ?a25 ?l25 ?c25 ?k25 ?a26 ?l26 ?c26 ?k26 ?a27 ?l27 ?c27 ?k27 ?a28 ?l28 ?c28 ?k28 ?a29 ?l29 ?c29 ?k29 ?a30 ?l30 ?c30 ?k30 ?a31 ?l31 ?c31 ?k31 ?a32 ?l32 ?c32 ?k32 ?a33 ?l33 ?c33 ?k33 ?a34 ?l34 ?c34 ?k34 ?v0 ?v1 ?v2 ?v3 ?v4 ?v5 ?v6 ?z0 ?z1 ?z2 ?z3 ?z4 ?z5 ?z6 ?z7 ?z8 ?z9 ?z10 ?z11 ?z12 ?z13 ?z14
    (case p0 => k_is); (case q0g => k_is); (case q0h => k_is); (case q0o => k_is); (case q0s => k_is); (case q0m => k_is); (case q0k => k_is); (case q0x => k_is); (case q0y => k_is); (case a0 => k_is); (case l0 => k_is); (case c0 => k_is); (case k0 => k_is); (case a1 => k_is); (case l1 => k_is); (case c1 => k_is); (case k1 => k_is); (case a2 => k_is); (case l2 => k_is); (case c2 => k_is); (case k2 => k_is); (case a3 => k_is); (case l3 => k_is); (case c3 => k_is); (case k3 => k_is); (case a4 => k_is); (case l4 => k_is); (case c4 => k_is); (case k4 => k_is); (case a5 => k_is); (case l5 => k_is); (case c5 => k_is); (case k5 => k_is); (case a6 => k_is); (case l6 => k_is); (case c6 => k_is); (case k6 => k_is); (case a7 => k_is); (case l7 => k_is); (case c7 => k_is); (case k7 => k_is); (case a8 => k_is); (case l8 => k_is); (case c8 => k_is); (case k8 => k_is); (case a9 => k_is); (case b9 => k_is); (case l9 => k_is); (case c9 => k_is); (case k9 => k_is); (case a10 => k_is); (case b10 => k_is); (case l10 => k_is); (case c10 => k_is); (case k10 => k_is); (case a11 => k_is); (case l11 => k_is); (case c11 => k_is); (case k11 => k_is); (case a12 => k_is); (case l12 => k_is); (case c12 => k_is); (case k12 => k_is); (case a13 => k_is); (case l13 => k_is); (case c13 => k_is); (case k13 => k_is); (case a14 => k_is); (case l14 => k_is); (case c14 => k_is); (case k14 => k_is); (case a15 => k_is); (case l15 => k_is); (case c15 => k_is); (case k15 => k_is); (case a16 => k_is); (case l16 => k_is); (case c16 => k_is); (case k16 => k_is); (case a17 => k_is); (case l17 => k_is); (case c17 => k_is); (case k17 => k_is); (case a18 => k_is); (case l18 => k_is); (case c18 => k_is); (case k18 => k_is); (case a19 => k_is); (case l19 => k_is); (case c19 => k_is); (case k19 => k_is); (case a20 => k_is); (case l20 => k_is); (case c20 => k_is); (case k20 => k_is); (case a21 => k_is); (case l21 => k_is); (case c21 => k_is); (case k21 => k_is); (case a22 => k_is); (case l22 => k_is); (case c22 => k_is); (case k22 => k_is); (case a23 => k_is); (case l23 => k_is); (case c23 => k_is); (case k23 => k_is); (case a24 => k_is); (case l24 => k_is); (case c24 => k_is); (case k24 => k_is); (case a25 => k_is); (case l25 => k_is); (case c25 => k_is); (case k25 => k_is); (case a26 => k_is); (case l26 => k_is); (case c26 => k_is); (case k26 => k_is); (case a27 => k_is); (case l27 => k_is); (case c27 => k_is); (case k27 => k_is); (case a28 => k_is); (case l28 => k_is); (case c28 => k_is); (case k28 => k_is); (case a29 => k_is); (case l29 => k_is); (case c29 => k_is); (case k29 => k_is); (case a30 => k_is); (case l30 => k_is); (case c30 => k_is); (case k30 => k_is); (case a31 => k_is); (case l31 => k_is); (case c31 => k_is); (case k31 => k_is); (case a32 => k_is); (case l32 => k_is); (case c32 => k_is); (case k32 => k_is); (case a33 => k_is); (case l33 => k_is); (case c33 => k_is); (case k33 => k_is); (case a34 => k_is); (case l34 => k_is); (case c34 => k_is); (case k34 => k_is); (case v0 => k_is); (case v1 => k_is); (case v2 => k_is); (case v3 => k_is); (case v4 => k_is); (case v5 => k_is); (case v6 => k_is); (case z0 => k_is); (case z1 => k_is); (case z2 => k_is); (case z3 => k_is); (case z4 => k_is); (case z5 => k_is); (case z6 => k_is); (case z7 => k_is); (case z8 => k_is); (case z9 => k_is); (case z10 => k_is); (case z11 => k_is); (case z12 => k_is); (case z13 => k_is); (case z14 => k_is)

