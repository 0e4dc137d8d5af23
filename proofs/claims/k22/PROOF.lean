import PyProof.Rows.All
import Wide.All
import OpenK.AllK
import Wide.FinOn
import HandS.ForMost
import HandS.IsInst
import HandS.Wide
import HandS.TupAny
import HandS.TupMul
import HandS.RaiseMore
import HandS.Conv
import HandS.Strs
import PyProof.ReprLen
import HandS.Zip
import HandS.Walk
import HandS.Style
import KE.GoesNew
import KE.IntTextLaws
import PyProof.StrBlock2
import HandS.Text
import HandS.Steps
import KE.GoesEnum
import PyProof.EnumMake
import HandS.Dict
import KE.KDictZip
import HandS.TryOnly
import KE.KDictItemsList
import HandS.SetFor
import PyProof.Rows.IntBool
import PyProof.CallStr
import PyProof.PureInt
import PyProof.FactsAll.bool_2
import PyProof.Rows.RuleB_bool
import HandS.Defaults
import KE.SortData
import PyProof.Transfer
import HandS.TupSets
import KE.KDictKeyed
import PySem.Challenge.RW_wholeturn_k22_parts_of_likenesses
set_option Elab.async false
set_option linter.all false
set_option maxRecDepth 100000
set_option maxHeartbeats 4000000
/-! Defs whose run asks that no repr is under way around them (repr of a list or a tuple looks at that). -/
namespace Wt
open PySem PySem.Spec PyProof.Rows L2
structure FnG (P : Program) (w : World) (K : PySem.W.Frag)
    (mg : Str → Option Value) (base : Heap) (CX : CXT)
    (k : Nat) (f : Addr) (fd : FuncData) (ps : List Str)
    (sp : Sp) : Prop where
  len : ∀ vs H Q E, sp vs H Q E → vs.length = ps.length
  run : ∀ (A : Around) (outer : List Env) (s : Shared) (H : Hp)
    (args : Args) (us : List Value) (vs : List V) (Q : VK) (E : XK),
    A.guards = some [] → Room k A →
    Env0 P w K mg base A outer s H →
    BindsTo s fd args (ps.zip us) → Vals vs us → sp vs H Q E →
    codeAny (model P w) A (.call (.ref f) args)
      (CR CX outer P w H s Q E) s
section
variable {P : Program} {w : World} {K : PySem.W.Frag}
variable {mg : Str → Option Value} {base : Heap} {CX : CXT}
variable {j k : Nat} {f : Addr} {fd : FuncData} {ps : List Str} {sp : Sp}
theorem FnG.of (F : FnOk P w K mg base CX k f fd ps sp) :
    FnG P w K mg base CX k f fd ps sp :=
  ⟨F.len, fun A o s H a us vs Q E _ => F.run A o s H a us vs Q E⟩
theorem FnG.mono (F : FnG P w K mg base CX j f fd ps sp) (h : j ≤ k) :
    FnG P w K mg base CX k f fd ps sp :=
  ⟨F.len, fun A o s H a us vs Q E g r =>
    F.run A o s H a us vs Q E g (r.mono h)⟩
/-- a def of the text, its body read where no repr is under way -/
theorem okG {x qual : Str} {st : Stmt} {N : List Str}
    (F : Fun K x qual st f fd) (S : FnScope N ps (defScope st))
    (len : ∀ vs H Q E, sp vs H Q E → vs.length = ps.length)
    (hbody : ∀ (cdv : Value) (A : Around) (outer : List Env)
      (s : Shared) (H : Hp) (vs : List V) (Q : VK) (E : XK),
      A.guards = some [] →
      Room k (A.deeper
        (envOfC qual (defScope st) s.heap.objs.size f cdv)) →
      sp vs H Q E →
      ∃ t, PSs (cxOf CX0 P w K mg base N qual (defScope st) f cdv A
          outer s H E).nox (defBody st) t ∧
        t { nx := fun _ H' => Q .non H', rt := Q } (start N vs) H) :
    FnG P w K mg base CX0 (k + 1) f fd ps sp := by
  obtain ⟨oc, od, kV, doc, pm, an, cdv, ct, osl, rfl, lk, hcd⟩ := F.ex
  refine ⟨len, ?_⟩
  intro A outer s H args us vs Q E hG hr e0 hb r hsp
  have stays : ∀ b o, base.get? b = some o → s.heap.get? b = some o :=
    fun b o e => (e0.bs b o e).1
  have KX : K.In s.heap := e0.mod.kin.keeps stays
  have lim : s.heap.NoLimit := e0.mod.nolimit.keeps stays
  refine codeAny_call_function hr.depth (KX _ _ lk) rfl S.co S.gen rfl
    (PySem.W.codeRec_of KX hcd) (hb _ _ _ _ ?_)
  refine wpAny_newFunctionEnv_cells S.kind (fun y hy => ?_)
    fun env he s1 inc => ?_
  · rcases S.par y.1 (List.of_mem_zip (a := y.1) (b := y.2) hy).1 with q | q
    · exact .inl q
    · exact .inr ⟨q, PySem.W.cellsFrom_some _ _ _ (.inl q)⟩
  · subst he
    refine ⟨lim.keeps inc.toInCall.keep, codeAny_func ?_⟩
    obtain ⟨t, ht, hq⟩ := hbody cdv A outer s H vs Q E hG (hr.deeper _) hsp
    have I := inv_start (CX := CX0) (E := E) S hr.hd e0
      (len _ _ _ _ hsp) r inc
    refine wpAny_mono (ht.nox.run [] s1 (start N vs) H _ I hq)
      (fun fl s' hs => ?_) fun e s' hs => hs
    cases fl with
    | ret u =>
      obtain ⟨v, σ', H', J, rv, q⟩ := hs
      exact ⟨v, H', J.os, J.bare, J.base, J.hok, rv, q⟩
    | next =>
      obtain ⟨σ', H', J, q⟩ := hs
      exact ⟨V.non, H', J.os, J.bare, J.base, J.hok, rfl, q⟩
    | brk => exact hs.elim fun _ h => h.elim fun _ z => z.2.elim
    | cont => exact hs.elim fun _ h => h.elim fun _ z => z.2.elim
end
section
variable {X : Cx} {CX : CXT} {k : Nat} {f : Addr} {fd : FuncData}
variable {ps : List Str} {sp : Sp} {dvs : List V} {ds : List Value}
variable {E : XK} {x : Str} {p pos : Pos} {e : Expr} {es : List Expr}
variable {t : TA}
theorem run_fnG {pins : List (Addr × Obj)} {σ : L2.St} {H : Hp} {s : Shared}
    {Q : VK} {us : List Value} {vs : List V}
    (F : FnG X.prog X.w X.K X.mg X.base CX k f fd ps sp)
    (hG : X.A.guards = some []) (hr : Room k X.A)
    (hb : Binds X.K fd ps ds) (hd : Vals dvs ds) (hx : Passes CX X E)
    (I : Inv X pins σ H s) (r : Vals vs us) (h : sp (vs ++ dvs) H Q E) :
    wpAny (model X.prog X.w) X.A (call (.ref f) us)
      (EP X pins σ Q) X.xe s := by
  have r2 := r.append hd
  have hl : (us ++ ds).length = ps.length :=
    r2.length.symm.trans (F.len _ _ _ _ h)
  have go := F.run X.A X.stack s H ⟨us, []⟩ _ _ Q E hG hr I.env0
    (hb s us I.kIn hl) r2 h
  refine wpAny_call (codeAny_mono go fun res s' hq => ?_)
  match res, hq with
  | .error e, hq => exact hx pins σ H s e s' I hq
  | .ok (.ret u), hq => exact I.after hq
  | .ok .next, hq => exact False.elim hq
  | .ok .brk, hq => exact False.elim hq
  | .ok .cont, hq => exact False.elim hq
/-- f(e, ..) of such a def -/
theorem pe_callG (F : FnG X.prog X.w X.K X.mg X.base CX k f fd ps sp)
    (hG : X.A.guards = some []) (hr : Room k X.A) (hg : Gl X x)
    (hm : X.mg x = some (.ref f))
    (hk : PySem.W.keepIn X.K (.ref f) = true)
    (hb : Binds X.K fd ps ds) (hd : Vals dvs ds) (hx : Passes CX X E)
    (ha : PA X (e :: es) t)
    (hdb : (x == ("__debug__" : Str)) = false := by decide)
    (he : starEach (e :: es) X.env =
      (false, eval e X.env) :: starEach es X.env := by rfl)
    (hpl : (backTo pos (starEach es X.env)).any (·.1) = false := by rfl) :
    PE X (.Call (.Name x p) (e :: es) [] pos) (tCall sp dvs E t) := by
  constructor
  intro pins s σ H Q I h
  refine wpAny_Call_Name_kw (ld_glob I hg hm ?_ hdb)
  refine PySem.W.callWith_K (h₀ := X.base) I.ok.mod.kin hk
    (thn (ha.run pos pins s σ H _ I h) ?_) he hpl
  intro us s1 ⟨vs, H1, I1, r, q⟩
  exact ⟨I1.kIn, run_fnG F hG hr hb hd hx I1 r q⟩
end
/-- the law's own call, its def of this kind -/
theorem law_callG {P : Program} {w : World} {K : PySem.W.Frag}
    {mg mb : Str → Option Value} {CX : CXT} {k : Nat} {fa a : Addr}
    {fd : FuncData} {x : Str} {sp : Sp} {s1 : Shared} {vs : List Value}
    {ns : List Int}
    (KX : K.In s1.heap) (hns : s1.heap.Ns mainGlobals mg)
    (hb : s1.heap.Ns builtinsNs mb)
    (hbb : ∀ x : Str, x ≠ "__name__" → mb x = bootBuiltins x)
    (hlim : s1.heap.NoLimit) (hg : s1.gens = #[])
    (ha : s1.heap.get? a =
      some { cls := .type "list", data := .seq vs.toArray })
    (hi : IntsAre vs ns) (hl : ns.length ≤ sizeLine)
    (hr : Room k callerA)
    (F : ∀ base : Heap, K.In base → base.Ns mainGlobals mg →
      FnG P w K mg base CX k fa fd [x] sp)
    (hbind : ∀ (s : Shared) (u : Value), BindsTo s fd ⟨[u], []⟩ [(x, u)])
    (hsp : ∀ H : Hp, Only H → SqL K H a (ns.map V.int) →
      sp [.ref a] H (fun v _ => v = .bl true) fun _ _ _ => False)
    (hCX : ∀ H e s', CX [] H s1 (fun _ _ _ => False) e s' → False) :
    codeAny (model P w) callerA (.call (.ref fa) ⟨[.ref a], []⟩)
      (fun r s' => r = .ok (.ret (.bool true)) ∧ OldK s1.heap s'.heap ∧
        s'.os = s1.os ∧ AllBare s'.gens) s1 := by
  have rv := vals_ints hi
  have main : ∀ H : Hp, Only H → SqL K H a (ns.map V.int) →
      HOk P w H s1.heap → (∀ b, H b ≠ none → b = a ∧ K.lookup b = none) →
      codeAny (model P w) callerA (.call (.ref fa) ⟨[.ref a], []⟩)
        (fun r s' => r = .ok (.ret (.bool true)) ∧ OldK s1.heap s'.heap ∧
          s'.os = s1.os ∧ AllBare s'.gens) s1 := by
    intro H hO hS hok hA
    have dictFree : ∀ {b : Addr} {o : Obj} {es : Array DictEntry} {n : Nat},
        s1.heap.get? b = some o → o.data = .dict es n → H b = none := by
      intro b o es n e d
      cases q : H b with
      | none => rfl
      | some u =>
        have eb := (hA b (by rw [q]; exact nofun)).1
        subst eb
        rw [ha] at e
        cases e
        exact nomatch d
    have nsK : ∀ {b : Addr} {m : Str → Option Value},
        s1.heap.Ns b m → (hidT s1.heap H).Ns b m := by
      intro b m ⟨o, es, ep, e, d, r⟩
      exact ⟨o, es, ep, hidT_get e (dictFree e d), d, r⟩
    have hKb : K.In (hidT s1.heap H) := by
      intro b o e
      refine hidT_get (KX b o e) ?_
      cases q : H b with
      | none => rfl
      | some u =>
        rw [(hA b (by rw [q]; exact nofun)).2] at e
        cases e
    obtain ⟨mc, l1, l2⟩ := hlim
    have hM : Mod K mg (hidT s1.heap H) :=
      ⟨hKb, nsK hns, ⟨mb, nsK hb, hbb⟩, ⟨mc, nsK l1, l2⟩⟩
    have e0 : Env0 P w K mg (hidT s1.heap H) callerA [] s1 H :=
      { frames := rfl, mod := hM, bs := fun b o e => of_hidT e,
        bsz := Nat.le_of_eq (hidT_size _ _), funs := trivial,
        frf := fun b z => (nomatch z), hok := hok, bare := .of_eq hg }
    have go := (F _ hKb (nsK hns)).run callerA [] s1 H ⟨[.ref a], []⟩
      [.ref a] [.ref a] _ _ rfl hr e0 (hbind s1 (.ref a))
      (.cons rfl .nil) (hsp H hO hS)
    refine codeAny_mono go fun res s' h => ?_
    match res, h with
    | .error e, h => exact (hCX H e s' h).elim
    | .ok .next, h => exact False.elim h
    | .ok .brk, h => exact False.elim h
    | .ok .cont, h => exact False.elim h
    | .ok (.ret u), h =>
      obtain ⟨v, H', os, bare, un, hok', r', q⟩ := h
      cases (show v = .bl true from q)
      obtain rfl : u = Value.bool true := r'
      refine ⟨rfl, OldK.of_keep fun b o e => ?_, os, bare⟩
      rcases hO b with z | ⟨ob, xs, z⟩
      · exact un.keep b o e z (fun m => nomatch m) (fun m => nomatch m)
      · have z1 := (hok b _ z).1
        rw [e] at z1
        cases z1
        exact (hok' b _ (un.frzs b _ _ z)).1
  cases hk : K.lookup a with
  | some o =>
    have e := KX a o hk
    rw [ha] at e
    cases e
    refine main (fun _ => none) (fun _ => .inl rfl) (.inr ?_)
      (fun b u z => (nomatch z)) (fun b z => absurd rfl z)
    refine ⟨_, vs.toArray, _, hk, rfl, rfl, rfl, ?_, by simpa using rv⟩
    rw [List.size_toArray, hi.length]
    exact hl
  | none =>
    let ob : Obj := { cls := .type "list", data := .seq vs.toArray }
    let H0 : Hp := fun b =>
      if b = a then some (.frz ob (.lst (ns.map V.int))) else none
    have at_a : H0 a = some (.frz ob (.lst (ns.map V.int))) := if_pos rfl
    have off_a : ∀ b, b ≠ a → H0 b = none := fun b h => if_neg h
    refine main H0 (fun b => ?_) (.inl (.inr ⟨ob, at_a⟩))
      (fun b u z => ?_) (fun b z => ?_)
    · by_cases h : b = a
      · subst h
        exact .inr ⟨_, _, at_a⟩
      · exact .inl (off_a b h)
    · by_cases h : b = a
      · subst h
        rw [at_a] at z
        cases z
        refine ⟨ha, ?_, vs, _, rv, ha⟩
        rw [List.length_map]
        exact hl
      · rw [off_a b h] at z
        cases z
    · by_cases h : b = a
      · subst h
        exact ⟨rfl, hk⟩
      · exact absurd (off_a b h) z
theorem walkG {l : PySem.W.OpenLaw} {n k : Nat} {q : Program}
    {loose : List Str} {XP : (Str → Option Value) → Heap → Prop}
    {YP : World → Heap → Prop} {d : DefRec} {K : Params → PySem.W.Frag}
    {sp : PySem.W.Frag → Sp} {x : Str}
    (hn : l.most = some n) (hn2 : n ≤ sizeLine)
    (hdf : d.params.defaults = []) (hr : Room k callerA)
    (hY : ∀ (w : World) (h : Heap), YP w h → (K w.params).In h)
    (F : ∀ (w : World) (mg : Str → Option Value) (fa : Addr) (h : Heap),
      (K w.params).In h → h.Ns mainGlobals mg →
      mg d.name = some (.ref fa) →
      ∃ fd : FuncData,
        (∀ (s : Shared) (u : Value), BindsTo s fd ⟨[u], []⟩ [(x, u)]) ∧
        ∀ base : Heap, (K w.params).In base → base.Ns mainGlobals mg →
          FnG l.prog w (K w.params) mg base CX0 k fa fd [x]
            (sp (K w.params)))
    (hsp : ∀ (K : PySem.W.Frag) (H : Hp) (a : Addr) (ns : List Int),
      ns.length ≤ n → Only H → SqL K H a (ns.map V.int) →
      sp K [.ref a] H (fun v _ => v = .bl true) fun _ _ _ => False) :
    PySem.W.WalkO q loose XP YP l.row.toRowW d []
      (fun f vs => PySem.call f vs) := by
  refine Att.attach_call hn hdf ?_
  intro w s0 s1 mg mb fa o pm cd doc a vs ns G Y ho hd hcd hmg hobj hints
    hlen hg
  obtain ⟨fd, hb, hF⟩ := F w mg fa _ (hY w _ Y) G.T.g hmg
  exact law_callG (hY w _ Y) G.T.g G.T.b G.T.builtins G.T.nolimit hg hobj
    hints (Nat.le_trans hlen hn2) hr hF hb
    (fun H hO hS => hsp _ H a ns hlen hO hS) fun H e s' z => z
end Wt

/-! Tuples told with their object, which has no dict of its own: made, put together, cut; their method index. -/
namespace Wt
open PySem PySem.Spec PyProof.Rows L2
def NewT (H : Hp) (xs : List V) (Q : VK) : Prop :=
  ∀ (p : Addr) (o : Obj), H p = none → o.dict = none →
    o.cls = .type "tuple" → Q (.ref p) (upd H p (.frz o (.tup xs)))
section
variable {X : Cx}
theorem ep_newT {pins : List (Addr × Obj)} {σ : L2.St} {H : Hp} {s : Shared}
    {xs : List V} {its : List Value} {n tk : Nat} {Q : VK}
    (I : Inv X pins σ H s) (hz : xs.length ≤ sizeLine) (r : Vals xs its)
    (q : NewT H xs Q) :
    EP X pins σ Q (.ref s.heap.objs.size) { s with heap := (s.heap.push
      (Obj.mk (.type "tuple") none (.seq its.toArray n) #[])), toks := tk } := by
  have g := Heap.get?_push_size s.heap
    (o := Obj.mk (.type "tuple") none (.seq its.toArray n) #[]) rfl
  refine ⟨.ref s.heap.objs.size, _, I.laid (t' := tk)
    (o := .frz (Obj.mk (.type "tuple") none (.seq its.toArray n) #[])
      (.tup xs)) (fun b ob e => Heap.get?_push_of_some _ e)
    (Nat.le_refl _) ?_, rfl, q _ _ (I.hok.fresh (Nat.le_refl _)) rfl rfl⟩
  exact ⟨g, hz, its, r, ⟨_, g, rfl, n, rfl⟩⟩
/-! (a, b) -/
def tTupC (t : TA) : TE := fun σ H Q => t σ H fun xs H1 =>
  xs.length ≤ sizeLine ∧ NewT H1 xs Q
theorem pe_tupC {es : List Expr} {t : TA} {pos : Pos} {x1} (h : PA X es t) :
    PE X (.Tuple es x1 pos) (tTupC t) := by
  refine ⟨fun pins s σ H Q I hq => ?_⟩
  refine wpAny_Tuple_spliced (thn (h.run pos pins s σ H _ I hq)
    fun us s1 ⟨xs, H1, I1, r, z, q⟩ => ⟨by rw [← r.length]; exact z, ?_⟩)
  exact ep_newT I1 z r q
/-! tuple(x) -/
abbrev rTupC (K : PySem.W.Frag) : List V → Hp → VK → Prop := fun xs H Q =>
  ∃ p ys, xs = [.ref p] ∧ ((SqL K H p ys ∧ NewT H ys Q) ∨
    (SqT K H p ys ∧ Q (.ref p) H))
theorem call_tupC : CallR X (.type "tuple") (rTupC X.K) := by
  intro pins s σ H xs us Q I r h
  obtain ⟨p, ys, rfl, h⟩ := h
  obtain ⟨u, rfl, rx⟩ := vals1 r
  cases rx
  rcases h with ⟨hq, q⟩ | ⟨hq, q⟩
  · obtain ⟨its, r', pl, hz⟩ := I.list hq
    have hlen := r'.length
    refine call_tuple_list pl.isList (fun h' kp => ?_)
      (by simp only [List.size_toArray]; omega)
    have I1 : Inv X pins σ H { s with heap := h' } := I.kept (t' := s.toks) kp
    exact ep_newT I1 hz r' q
  · obtain ⟨its, r', pl, hz⟩ := I.tuple hq
    exact call_tuple_same pl ⟨.ref p, H, I, rfl, q⟩
/-! t + u -/
def rCatC (K : PySem.W.Frag) : R2 := fun x y H Q => ∃ a b xs ys,
  x = .ref a ∧ y = .ref b ∧ SqT K H a xs ∧ SqT K H b ys ∧
  xs.length + ys.length ≤ sizeLine ∧ (xs = [] → Q (.ref b) H) ∧
  (xs ≠ [] → ys = [] → Q (.ref a) H) ∧
  (xs ≠ [] → ys ≠ [] → NewT H (xs ++ ys) Q)
theorem op_catC : OpR X (binaryOp .Add) (rCatC X.K) := by
  intro pins s σ H x y v u Q I rx ry h
  obtain ⟨a, b, xs, ys, rfl, rfl, ha, hb, hz, q0, q1, q2⟩ := h
  cases rx
  cases ry
  obtain ⟨its, r1, p1, _⟩ := I.tuple ha
  obtain ⟨its2, r2, p2, _⟩ := I.tuple hb
  by_cases hx : xs = []
  · subst hx
    cases r1
    exact cat_tup0 p1 p2 ⟨.ref b, H, I, rfl, q0 rfl⟩
  · refine HT.cat_tup p1 p2 (fun z => hx (r1.nil_iff.mp z))
      (fun z => ⟨.ref a, H, I, rfl, q1 hx (r2.nil_iff.mp z)⟩) (fun z => ?_)
      (by rw [← r1.length, ← r2.length]; exact hz)
    exact ep_newT (tk := s.toks) I (by rw [List.length_append]; exact hz)
      (r1.append r2) (q2 hx fun w => z (r2.nil_iff.mpr w))
/-! t[lo:hi] -/
def rSlC (K : PySem.W.Frag) : V → Option Int → Option Int → Hp → VK → Prop :=
  fun x lo hi H Q => ∃ a xs, x = .ref a ∧ SqT K H a xs ∧
  (HT.sIx xs.length 0 lo = 0 ∧ HT.sIx xs.length xs.length hi = xs.length →
    Q (.ref a) H) ∧
  (¬ (HT.sIx xs.length 0 lo = 0 ∧ HT.sIx xs.length xs.length hi = xs.length) →
    NewT H (cutV xs lo hi) Q)
theorem sl_tupC : SlR X (rSlC X.K) := by
  intro pins s σ H x v vl vu lo hi sl Q I rx hs pl pu h
  obtain ⟨a, xs, rfl, hx, q1, q2⟩ := h
  cases rx
  obtain ⟨its, r, ht, hz⟩ := I.tuple hx
  have hlen : its.toArray.size = xs.length := by
    rw [List.size_toArray]; exact r.length.symm
  refine ⟨"tuple", _, PyProof.Rows.slot_tuple_getitem.lookup, ht.typeIs, ?_⟩
  by_cases hw : HT.sIx xs.length 0 lo = 0 ∧
      HT.sIx xs.length xs.length hi = xs.length
  · exact getItem_tuple_whole ht hs pl pu (by rw [hlen]; exact hw)
      ⟨.ref a, H, I, rfl, q1 hw⟩
  · refine HT.getItem_tuple_cut ht hs pl pu (by rw [hlen]; exact hw) ?_
      (by rw [hlen]; exact hz)
    rw [hlen]
    exact ep_newT (tk := s.toks) I (Nat.le_trans (cutV_length xs lo hi) hz)
      ((r.drop (HT.sIx xs.length 0 lo)).take
        (HT.sIx xs.length xs.length hi - HT.sIx xs.length 0 lo)) (q2 hw)
/-! tuple(range(n)) -/
def tTupRgC (te : L2.St → Hp → (Int → Int → Hp → Prop) → Prop) : TE :=
  fun σ H Q => te σ H fun a b H1 => RgOk a b ∧ NewT H1 (rgV a b) Q
theorem pe_tupRgC {e : Expr}
    {te : L2.St → Hp → (Int → Int → Hp → Prop) → Prop} {p pos : Pos}
    (hc : X.calm = true) (hg : Gl X "tuple") (hm : X.mg "tuple" = none)
    (he : PRg X e te) (na : starEach [e] X.env =
      (false, eval e X.env) :: starEach [] X.env := by rfl) :
    PE X (.Call (.Name "tuple" p) [e] [] pos) (tTupRgC te) := by
  refine ⟨fun pins s σ H Q I h => ?_⟩
  refine Call_ (ld_blt I hg hm boot_tuple (PyProof.Rows.callWith_type1
    (args_cons (thn (he pins s σ H _ I h)
      fun x s1 ⟨r, a, b, t, u, v, H1, ex, hr, I1, ok, q⟩ => args_nil ?_) na) na))
  subst ex
  obtain ⟨b1, b2, b3, b4, b5⟩ := ok
  refine call_tuple_range (n := (b - a).toNat) (I1.ok.hd hc) hr
    (small_one b1 b2 b3 b4) (rangeSize_nat a b) b5 fun h' tk acc hk hi => ?_
  have I2 : Inv X pins σ H1 { s1 with heap := h', toks := tk } := I1.kept hk
  have := ep_newT (its := acc.toList) (n := 0) (tk := tk) I2
    (by rw [rgV_length, sizeLine_eq]; omega) (vals_rg hi) q
  rw [Array.toArray_toList] at this
  exact this
/-! t.index(x) of whole numbers -/
/-- a tuple whose object has no dict -/
def Cln (H : Hp) (a : Addr) : Prop :=
  ∃ (o : Obj) (xs : List V), H a = some (.frz o (.tup xs)) ∧ o.dict = none
def tBMT (r : V → List V → Hp → VK → Prop) (to : TE) (t : TA) : TE :=
  fun σ H Q => to σ H fun x H1 => ∃ a, x = .ref a ∧ Cln H1 a ∧
    t σ H1 fun xs H2 => r x xs H2 Q
theorem pe_bmT {o e : Expr} {es : List Expr} {to : TE} {t : TA} {name : Str}
    {apos cpos : Pos} {id : String} {r : V → List V → Hp → VK → Prop}
    (pa : PlainAttrs "tuple") (slot : Slot "tuple" name id)
    (hty : typeOf (.builtin id) = pure (.type "method_descriptor"))
    (hm : MtR X id r) (ho : PE X o to) (ha : PA X (e :: es) t)
    (hbase : attributeBase o name X.env (eval o X.env) =
      eval o X.env := by rfl)
    (hfew : ((backTo cpos (starEach (e :: es) X.env)).all (fun x => !x.1) &&
      (backToKw cpos (keywordEach [] X.env)).all (fun x => x.1.isSome) &&
      decide ((e :: es).length + ([] : List Keyword).length +
        (if ([] : List Keyword).isEmpty then 0 else 1) < 30)) = true := by rfl)
    (hline : (apos.endLine == cpos.line) = true := by rfl)
    (hs : starEach (e :: es) X.env =
      (false, eval e X.env) :: starEach es X.env := by rfl)
    (hplain : (backTo cpos (starEach es X.env)).any (·.1) = false := by rfl) :
    PE X (.Call (.Attribute o name apos) (e :: es) [] cpos) (tBMT r to t) := by
  refine ⟨fun pins s σ H Q I h => ?_⟩
  refine wpAny_Call_method_late hbase hfew hline rfl
    (thn (ho.run pins s σ H _ I h) fun v s1 ⟨x, H1, I1, r1, a, ex, hc, q1⟩ => ?_)
  subst ex
  cases r1
  obtain ⟨ob, xs, hob, hdict⟩ := hc
  obtain ⟨g, _, its, _, o2, g2, hcls, _⟩ := I1.hok a _ hob
  rw [g] at g2
  cases g2
  refine ⟨"tuple", id, pa, slot, hty, ⟨ob, g, hcls⟩, fun b eb => ?_, ?_⟩
  · cases eb
    exact ⟨ob, g, hdict⟩
  have hA := ha.run cpos pins s1 σ H1 _ I1 q1
  rw [hs] at hA ⊢
  refine Calls.callWith_builtin (by
    show (false || (backTo cpos (starEach es X.env)).any (·.1)) = false
    rw [hplain]; rfl) (Calls.evalArgs_plain ?_)
  exact thn hA fun us s2 ⟨vs, H2, I2, r2, q2⟩ =>
    hm pins s2 σ H2 (.ref a) vs (.ref a) us Q I2 rfl r2 q2
def rIdx (K : PySem.W.Frag) : V → List V → Hp → VK → Prop := fun x xs H Q =>
  ∃ p, ∃ ns : List Int, ∃ n j, x = .ref p ∧ xs = [.int n] ∧
    SqT K H p (ns.map V.int) ∧ ns[j]? = some n ∧
    (∀ m, m < j → ns[m]? ≠ some n) ∧ Q (.int (j : Nat)) H
theorem flat_ints (ns : List Int) : (ns.map V.int).all flatV = true := by
  rw [List.all_map]
  exact List.all_eq_true.mpr fun _ _ => rfl
theorem mt_idx : MtR X "tuple.index" (rIdx X.K) := by
  intro pins s σ H x xs v us Q I rx rs h
  obtain ⟨p, ys, z, j, rfl, rfl, hq, hy, hno, q⟩ := h
  cases rx
  obtain ⟨u, rfl, t, rfl⟩ := vals1 rs
  obtain ⟨its, r, pl, hz⟩ := I.tuple hq
  obtain ⟨⟨cls, dd, dt, sl⟩, ho, hc, n, hd⟩ := pl
  simp only at hc hd
  subst hc
  subst hd
  have hl : its.toArray.size = ys.length := by
    rw [List.size_toArray, ← r.length, List.length_map]
  have hj : j < its.toArray.size := by
    rw [hl]; exact (List.getElem?_eq_some_iff.mp hy).1
  have at' : ∀ (m : Nat) (hm : m < its.toArray.size), ∃ y t',
      ys[m]? = some y ∧ its.toArray[m] = Value.int y t' := fun m hm => by
    have hm' : m < ys.length := by rw [← hl]; exact hm
    obtain ⟨w, hw, t', hw'⟩ := r.get (i := m) (x := .int ys[m])
      (by simp [hm'])
    refine ⟨ys[m], t', List.getElem?_eq_getElem hm', ?_⟩
    have e := (List.getElem?_eq_some_iff.mp hw).2
    rw [← hw', ← e]
    simp
  refine call_meets PySem.F.slot_tuple_index ⟨_, ho, rfl⟩
    PySem.F.entry_tuple_index (PySem.F.args_tuple_index_2 _ _)
    (TI.tuple_indexAt p its.toArray n dd sl (.int z t) (eqU (.int z)) j hj
      ?_ ?_) ⟨ho, fun w hw => mem_eqAt (x := .int z) ⟨t, rfl⟩ rfl r
        (flat_ints ys) w (by simpa using hw),
      ⟨.int (j : Nat), H, I.tok _, ⟨_, rfl⟩, q⟩⟩
  · obtain ⟨y, t', h1, h2⟩ := at' j hj
    rw [hy] at h1
    cases h1
    rw [h2]
    show (z == z) = true
    exact beq_self_eq_true z
  · intro m hm hmj
    obtain ⟨y, t', h1, h2⟩ := at' m hm
    rw [h2]
    show (y == z) = false
    exact beq_eq_false_iff_ne.mpr fun e => hno m hmj (e ▸ h1)
end
end Wt

/-! Data: what a value is through the heap; runs told by data alone. -/
namespace Wt
open PySem PySem.Spec PyProof.Rows L2
inductive D where
  | non
  | bl (b : Bool)
  | int (i : Int)
  | str (x : Str)
  | lst (xs : List D)
  | tup (xs : List D)
  | dic (kis : List (Int × Int))
  | ins (C : Addr) (ns : List Str) (xs : List D)
  | scr (ns : List Int)
/-- the law's script: known to its object, or one of the module's own -/
def Scr (K : PySem.W.Frag) (B : Hp) (a : Addr) (xs : List V) : Prop :=
  (∃ o, B a = some (.frz o (.lst xs))) ∨
    ∃ (o : Obj) (its : Array Value) (n : Nat), K.lookup a = some o ∧
      o.cls = .type "list" ∧ o.dict = none ∧ o.data = .seq its n ∧
      its.size ≤ sizeLine ∧ Vals xs its.toList
theorem Scr.seq {K : PySem.W.Frag} {B H : Hp} {a : Addr} {xs : List V}
    (h : Scr K B a xs) (s : Same B H) : SqL K H a xs := by
  rcases h with ⟨o, h⟩ | h
  · exact .inl (.inr ⟨o, s _ _ h⟩)
  · exact .inr h
theorem Scr.mono {K : PySem.W.Frag} {B H : Hp} {a : Addr} {xs : List V}
    (h : Scr K B a xs) (s : Same B H) : Scr K H a xs := by
  rcases h with ⟨o, h⟩ | h
  · exact .inl ⟨o, s _ _ h⟩
  · exact .inr h
mutual
inductive Is (K : PySem.W.Frag) (B : Hp) : V → D → Prop
  | non : Is K B .non .non
  | bl (b : Bool) : Is K B (.bl b) (.bl b)
  | int (i : Int) : Is K B (.int i) (.int i)
  | str (x : Str) : Is K B (.str x) (.str x)
  | lst {a : Addr} {xs : List V} {ds : List D} :
      B a = some (.lst xs) → IsAll K B xs ds → Is K B (.ref a) (.lst ds)
  | tup {a : Addr} {xs : List V} {ds : List D} :
      SqT K B a xs → IsAll K B xs ds → Cln B a → Is K B (.ref a) (.tup ds)
  | dic {a : Addr} {kis : List (Int × Int)} :
      B a = some (.dK (kis.map fun p => (Sum.inl p.1, V.int p.2))) →
      Is K B (.ref a) (.dic kis)
  | ins {a dx C : Addr} {ns : List Str} {xs : List V} {ds : List D} :
      B a = some (.ins C dx (ns.zip xs)) → IsAll K B xs ds →
      Is K B (.ref a) (.ins C ns ds)
  | scr {a : Addr} {ns : List Int} :
      Scr K B a (ns.map V.int) → Is K B (.ref a) (.scr ns)
inductive IsAll (K : PySem.W.Frag) (B : Hp) : List V → List D → Prop
  | nil : IsAll K B [] []
  | cons {v : V} {vs : List V} {d : D} {ds : List D} :
      Is K B v d → IsAll K B vs ds → IsAll K B (v :: vs) (d :: ds)
end
section
variable {K : PySem.W.Frag} {B B2 H : Hp} {a : Addr} {xs : List V}
theorem sameT (s : Same B B2) (h : SqT K B a xs) : SqT K B2 a xs := by
  rcases h with (h | ⟨o, h⟩) | h
  · exact .inl (.inl (s _ _ h))
  · exact .inl (.inr ⟨o, s _ _ h⟩)
  · exact .inr h
theorem Cln.mono (s : Same B B2) (h : Cln B a) : Cln B2 a := by
  obtain ⟨o, xs, e, d⟩ := h
  exact ⟨o, xs, s _ _ e, d⟩
mutual
theorem Is.mono (s : Same B B2) : ∀ {v : V} {d : D}, Is K B v d → Is K B2 v d
  | _, _, .non => .non
  | _, _, .bl b => .bl b
  | _, _, .int i => .int i
  | _, _, .str x => .str x
  | _, _, .lst h r => .lst (s _ _ h) (IsAll.mono s r)
  | _, _, .tup h r c => .tup (sameT s h) (IsAll.mono s r) (c.mono s)
  | _, _, .dic h => .dic (s _ _ h)
  | _, _, .ins h r => .ins (s _ _ h) (IsAll.mono s r)
  | _, _, .scr h => .scr (h.mono s)
theorem IsAll.mono (s : Same B B2) :
    ∀ {vs : List V} {ds : List D}, IsAll K B vs ds → IsAll K B2 vs ds
  | _, _, .nil => .nil
  | _, _, .cons h r => .cons (h.mono s) (IsAll.mono s r)
end
theorem IsAll.length {vs : List V} {ds : List D} :
    IsAll K B vs ds → vs.length = ds.length := by
  intro h
  induction ds generalizing vs with
  | nil => cases h; rfl
  | cons d ds ih =>
    cases h with
    | cons h r => rw [List.length_cons, List.length_cons, ih r]
theorem IsAll.get : ∀ {vs : List V} {ds : List D} {i : Nat} {v : V},
    IsAll K B vs ds → vs[i]? = some v → ∃ d, ds[i]? = some d ∧ Is K B v d
  | _, _, _, _, .nil, e => by simp at e
  | _, _, 0, _, .cons h _, e => by
    simp at e; subst e; exact ⟨_, rfl, h⟩
  | _, _, i + 1, v, .cons _ r, e => by
    obtain ⟨d, h1, h2⟩ := IsAll.get (i := i) (v := v) r (by simpa using e)
    exact ⟨d, by simpa using h1, h2⟩
theorem IsAll.got : ∀ {vs : List V} {ds : List D} {i : Nat} {d : D},
    IsAll K B vs ds → ds[i]? = some d → ∃ v, vs[i]? = some v ∧ Is K B v d
  | _, _, _, _, .nil, e => by simp at e
  | _, _, 0, _, .cons h _, e => by
    simp at e; subst e; exact ⟨_, rfl, h⟩
  | _, _, i + 1, d, .cons _ r, e => by
    obtain ⟨v, h1, h2⟩ := IsAll.got (i := i) (d := d) r (by simpa using e)
    exact ⟨v, by simpa using h1, h2⟩
theorem IsAll.append : ∀ {vs ws : List V} {ds es : List D},
    IsAll K B vs ds → IsAll K B ws es → IsAll K B (vs ++ ws) (ds ++ es)
  | _, _, _, _, .nil, s => s
  | _, _, _, _, .cons h r, s => .cons h (IsAll.append r s)
theorem IsAll.take (n : Nat) : ∀ {vs : List V} {ds : List D},
    IsAll K B vs ds → IsAll K B (vs.take n) (ds.take n) := by
  induction n with
  | zero => intro vs ds _; exact .nil
  | succ n ih =>
    intro vs ds h
    cases h with
    | nil => exact .nil
    | cons h r => exact .cons h (ih r)
theorem IsAll.drop (n : Nat) : ∀ {vs : List V} {ds : List D},
    IsAll K B vs ds → IsAll K B (vs.drop n) (ds.drop n) := by
  induction n with
  | zero => intro vs ds h; exact h
  | succ n ih =>
    intro vs ds h
    cases h with
    | nil => exact .nil
    | cons h r => exact ih r
end
theorem same_new {H : Hp} {p : Addr} {o : HO} (h : H p = none) :
    Same H (upd H p o) := fun b x e => by
  rw [upd_ne (ne_of_none e h)]
  exact e
/-! ### the state -/
/-- the law's own hand: what is left of its digits, its seed, its count -/
def Hand (H : Hp) (l : Addr) (n : Nat) : Prop :=
  ∃ g s c : Int, H l = some (.lst [.int g, .int s, .int c]) ∧
    0 ≤ g ∧ g < 10 ^ 600 ∧ 0 ≤ s ∧ s < 2 ^ 61 ∧ 0 ≤ c ∧ c ≤ n
theorem Hand.mono {H : Hp} {l : Addr} {n m : Nat} (h : Hand H l n)
    (hm : n ≤ m) : Hand H l m := by
  obtain ⟨g, s, c, e, a1, a2, a3, a4, a5, a6⟩ := h
  exact ⟨g, s, c, e, a1, a2, a3, a4, a5, by omega⟩
theorem Hand.some {H : Hp} {l : Addr} {n : Nat} (h : Hand H l n) :
    H l ≠ none := by
  obtain ⟨g, s, c, e, _⟩ := h
  rw [e]
  exact nofun
inductive Sl where
  | dat (d : D)
  | own (ds : List D)
  | hand
abbrev Ro := List (Option Sl)
def SlV (K : PySem.W.Frag) (l : Option Addr) (Z : Addr → Prop)
    (B H : Hp) (v : V) : Sl → Prop
  | .dat d => Is K B v d
  | .own ds => ∃ a xs, v = .ref a ∧ H a = some (.lst xs) ∧ B a = none ∧
      ¬ Z a ∧ l ≠ some a ∧ IsAll K B xs ds
  | .hand => ∃ a, l = some a ∧ v = .ref a
structure Bs (l : Option Addr) (Z : Addr → Prop) (m : Nat) (B H : Hp) :
    Prop where
  sub : Same B H
  hand : ∀ a, l = some a → Hand H a m ∧ B a = none
  zs : ∀ z, Z z → H z ≠ none ∧ B z = none ∧ l ≠ some z
structure Ok (K : PySem.W.Frag) (l : Option Addr) (Z : Addr → Prop)
    (m : Nat) (B H : Hp) (σ : L2.St) (ρ : Ro) : Prop extends
    Bs l Z m B H where
  len : σ.length = ρ.length
  sl : ∀ (i : Nat) s, ρ[i]? = some (some s) →
    ∃ v, σ[i]? = some (some v) ∧ SlV K l Z B H v s
  dis : ∀ (i j : Nat) ds es a, i ≠ j →
    ρ[i]? = some (some (.own ds)) → ρ[j]? = some (some (.own es)) →
    σ[i]? = some (some (.ref a)) → σ[j]? ≠ some (some (.ref a))
structure Fr (Z : Addr → Prop) (B H B2 H2 : Hp) : Prop where
  sub : Same B B2
  kept : ∀ z, Z z → H2 z = H z
section
variable {K : PySem.W.Frag} {l : Option Addr} {Z : Addr → Prop}
variable {m m' : Nat} {B H B1 H1 B2 H2 : Hp} {σ : L2.St} {ρ : Ro}
theorem Fr.refl : Fr Z B H B H := ⟨Same.refl B, fun _ _ => rfl⟩
theorem Fr.trans (a : Fr Z B H B1 H1) (b : Fr Z B1 H1 B2 H2) :
    Fr Z B H B2 H2 :=
  ⟨a.sub.trans b.sub, fun z h => (b.kept z h).trans (a.kept z h)⟩
theorem Bs.mono (h : Bs l Z m B H) (hm : m ≤ m') : Bs l Z m' B H :=
  ⟨h.sub, fun a e => ⟨(h.hand a e).1.mono hm, (h.hand a e).2⟩, h.zs⟩
theorem Ok.budget (h : Ok K l Z m B H σ ρ) (hm : m ≤ m') :
    Ok K l Z m' B H σ ρ :=
  { h.toBs.mono hm with len := h.len, sl := h.sl, dis := h.dis }
/-- the state over a heap in which more stands: all own lists, the hand and what is kept are as they were -/
theorem Ok.step (h : Ok K l Z m B H σ ρ) (hs : Same B B2) (hB : Same B2 H2)
    (hh : ∀ a, l = some a → Hand H2 a m')
    (hk : ∀ a o, l ≠ some a → H a = some o → H2 a = some o)
    (hf : ∀ a, H a ≠ none → B a = none → B2 a = none) :
    Ok K l Z m' B2 H2 σ ρ ∧ Fr Z B H B2 H2 := by
  have keep : ∀ z, l ≠ some z → H z ≠ none → H2 z = H z := by
    intro z hz hn
    cases e : H z with
    | none => exact absurd e hn
    | some o => exact hk z o hz e
  refine ⟨⟨⟨hB, fun a e => ⟨hh a e, ?_⟩, ?_⟩, h.len, ?_, h.dis⟩,
    ⟨hs, fun z hz => ?_⟩⟩
  · exact hf a (h.hand a e).1.some (h.hand a e).2
  · intro z hz
    obtain ⟨q1, q2, q3⟩ := h.zs z hz
    exact ⟨by rw [keep z q3 q1]; exact q1, hf z q1 q2, q3⟩
  · intro i s e
    obtain ⟨v, e1, q⟩ := h.sl i s e
    refine ⟨v, e1, ?_⟩
    cases s with
    | dat d => exact Is.mono hs q
    | hand => exact q
    | own ds =>
      obtain ⟨a, xs, rfl, q1, q2, q3, q4, q5⟩ := q
      refine ⟨a, xs, rfl, hk a _ q4 q1, hf a ?_ q2, q3, q4, q5.mono hs⟩
      rw [q1]; exact nofun
  · obtain ⟨q1, q2, q3⟩ := h.zs z hz
    exact keep z q3 q1
/-- a new object, which is data from now on -/
theorem Ok.new {p : Addr} {o : HO} (h : Ok K l Z m B H σ ρ)
    (hp : H p = none) :
    Ok K l Z m (upd B p o) (upd H p o) σ ρ ∧
      Fr Z B H (upd B p o) (upd H p o) := by
  have hb : B p = none := by
    cases e : B p with
    | none => rfl
    | some x => rw [h.sub p x e] at hp; cases hp
  refine h.step (same_new hb) (fun b x e => ?_) (fun a e => ?_)
    (fun a x _ e => same_new hp a x e) (fun a hn e => ?_)
  · by_cases q : b = p
    · subst q
      rw [upd_same] at e ⊢
      exact e
    · rw [upd_ne q] at e ⊢
      exact h.sub b x e
  · obtain ⟨g, s, c, q, r⟩ := (h.hand a e).1
    exact ⟨g, s, c, same_new hp _ _ q, r⟩
  · have q : a ≠ p := fun z => hn (z ▸ hp)
    rw [upd_ne q]
    exact e
end
/-! ### judgements by data -/
def EvC (K : PySem.W.Frag) (l : Option Addr) (te : TE) (ρ : Ro) (m : Nat)
    (Φ : Nat → D → Prop) : Prop :=
  ∀ Z B H σ (Q : VK), Ok K l Z m B H σ ρ →
    (∀ v d m' B2 H2, Ok K l Z m' B2 H2 σ ρ → Fr Z B H B2 H2 →
      Is K B2 v d → Φ m' d → Q v H2) → te σ H Q
def TvC (K : PySem.W.Frag) (l : Option Addr) (tt : TT) (ρ : Ro) (m : Nat)
    (Φ : Nat → Bool → Prop) : Prop :=
  ∀ Z B H σ (Q : Bool → Hp → Prop), Ok K l Z m B H σ ρ →
    (∀ b m' B2 H2, Ok K l Z m' B2 H2 σ ρ → Fr Z B H B2 H2 →
      Φ m' b → Q b H2) → tt σ H Q
def AvC (K : PySem.W.Frag) (l : Option Addr) (ta : TA) (ρ : Ro) (m : Nat)
    (Φ : Nat → List D → Prop) : Prop :=
  ∀ Z B H σ (Q : List V → Hp → Prop), Ok K l Z m B H σ ρ →
    (∀ vs ds m' B2 H2, Ok K l Z m' B2 H2 σ ρ → Fr Z B H B2 H2 →
      IsAll K B2 vs ds → Φ m' ds → Q vs H2) → ta σ H Q
/-- a step on values that are data -/
def VvC (K : PySem.W.Frag) (l : Option Addr) (ρ : Ro)
    (r : List V → Hp → VK → Prop) (ds : List D) (m : Nat)
    (Φ : Nat → D → Prop) : Prop :=
  ∀ Z B H σ vs (Q : VK), Ok K l Z m B H σ ρ → IsAll K B vs ds →
    (∀ v d m' B2 H2, Ok K l Z m' B2 H2 σ ρ → Fr Z B H B2 H2 →
      Is K B2 v d → Φ m' d → Q v H2) → r vs H Q
def SvC (K : PySem.W.Frag) (l : Option Addr) (ts : TS) (ρ : Ro) (m : Nat)
    (Nx : Nat → Ro → Prop) (Rt : Nat → D → Prop) : Prop :=
  ∀ Z B H σ (W : Ends), Ok K l Z m B H σ ρ →
    (∀ σ' ρ' m' B2 H2, Ok K l Z m' B2 H2 σ' ρ' → Fr Z B H B2 H2 →
      Nx m' ρ' → W.nx σ' H2) →
    (∀ v d m' B2 H2, Bs l Z m' B2 H2 → Fr Z B H B2 H2 →
      Is K B2 v d → Rt m' d → W.rt v H2) → ts W σ H
section
variable {K : PySem.W.Frag} {l : Option Addr} {ρ : Ro} {m : Nat}
variable {Φ : Nat → D → Prop} {Θ : Nat → Bool → Prop}
variable {ta tb te : TE} {t u : TT}
theorem e_var {i : Nat} {d : D} (h : ρ[i]? = some (some (.dat d)))
    (q : Φ m d) : EvC K l (tVar i) ρ m Φ := by
  intro Z B H σ Q ok k
  obtain ⟨v, e, z⟩ := ok.sl i _ h
  exact ⟨v, e, k v d m B H ok Fr.refl z q⟩
theorem e_non (q : Φ m .non) : EvC K l (tC .non) ρ m Φ :=
  fun Z B H σ Q ok k => k _ _ m B H ok Fr.refl .non q
theorem e_bl {b : Bool} (q : Φ m (.bl b)) : EvC K l (tC (.bl b)) ρ m Φ :=
  fun Z B H σ Q ok k => k _ _ m B H ok Fr.refl (.bl b) q
theorem e_int {i : Int} (q : Φ m (.int i)) : EvC K l (tC (.int i)) ρ m Φ :=
  fun Z B H σ Q ok k => k _ _ m B H ok Fr.refl (.int i) q
theorem e_str {x : Str} (q : Φ m (.str x)) : EvC K l (tC (.str x)) ρ m Φ :=
  fun Z B H σ Q ok k => k _ _ m B H ok Fr.refl (.str x) q
theorem e_imp {Φ' : Nat → D → Prop} (h : EvC K l te ρ m Φ)
    (q : ∀ n d, Φ n d → Φ' n d) : EvC K l te ρ m Φ' :=
  fun Z B H σ Q ok k => h Z B H σ Q ok fun v d n B2 H2 a b c e =>
    k v d n B2 H2 a b c (q n d e)
theorem e_op {r : R2} (h : EvC K l ta ρ m fun m1 x => EvC K l tb ρ m1
      fun m2 y => VvC K l ρ (fun vs H Q => ∃ x y, vs = [x, y] ∧ r x y H Q)
        [x, y] m2 Φ) : EvC K l (tOp r ta tb) ρ m Φ := by
  intro Z B H σ Q ok k
  refine h Z B H σ _ ok fun v1 d1 m1 B1 H1 o1 f1 i1 g1 => ?_
  refine g1 Z B1 H1 σ _ o1 fun v2 d2 m2 B2 H2 o2 f2 i2 g2 => ?_
  obtain ⟨x, y, e, z⟩ := g2 Z B2 H2 σ [v1, v2] Q o2
    (.cons (i1.mono f2.sub) (.cons i2 .nil)) fun v d m' B3 H3 o3 f3 i3 g3 =>
    k v d m' B3 H3 o3 ((f1.trans f2).trans f3) i3 g3
  cases e
  exact z
theorem e_un {r : V → Hp → VK → Prop} (h : EvC K l ta ρ m fun m1 x =>
      VvC K l ρ (fun vs H Q => ∃ x, vs = [x] ∧ r x H Q) [x] m1 Φ) :
    EvC K l (tUn r ta) ρ m Φ := by
  intro Z B H σ Q ok k
  refine h Z B H σ _ ok fun v1 d1 m1 B1 H1 o1 f1 i1 g1 => ?_
  obtain ⟨x, e, z⟩ := g1 Z B1 H1 σ [v1] Q o1 (.cons i1 .nil)
    fun v d m' B3 H3 o3 f3 i3 g3 =>
    k v d m' B3 H3 o3 (f1.trans f3) i3 g3
  cases e
  exact z
/-! values -/
theorem v_I {C : Int → Int → Prop} {g : Int → Int → Int} {i j : Int}
    (hc : C i j) (q : Φ m (.int (g i j))) :
    VvC K l ρ (fun vs H Q => ∃ x y, vs = [x, y] ∧
      rI C (fun i j => .int (g i j)) x y H Q) [.int i, .int j] m Φ := by
  intro Z B H σ vs Q ok is k
  cases is with
  | cons h1 r =>
    cases r with
    | cons h2 r =>
      cases r
      cases h1
      cases h2
      exact ⟨_, _, rfl, i, j, rfl, rfl, hc,
        k _ _ m B H ok Fr.refl (.int _) q⟩
theorem v_I0 {g : Int → Int → Int} {i j : Int} (q : Φ m (.int (g i j))) :
    VvC K l ρ (fun vs H Q => ∃ x y, vs = [x, y] ∧
      rI0 (fun i j => .int (g i j)) x y H Q) [.int i, .int j] m Φ := by
  intro Z B H σ vs Q ok is k
  cases is with
  | cons h1 r =>
    cases r with
    | cons h2 r =>
      cases r
      cases h1
      cases h2
      exact ⟨_, _, rfl, i, j, rfl, rfl, k _ _ m B H ok Fr.refl (.int _) q⟩
theorem v_B0 {g : Int → Int → Bool} {i j : Int} (q : Φ m (.bl (g i j))) :
    VvC K l ρ (fun vs H Q => ∃ x y, vs = [x, y] ∧
      rI0 (fun i j => .bl (g i j)) x y H Q) [.int i, .int j] m Φ := by
  intro Z B H σ vs Q ok is k
  cases is with
  | cons h1 r =>
    cases r with
    | cons h2 r =>
      cases r
      cases h1
      cases h2
      exact ⟨_, _, rfl, i, j, rfl, rfl, k _ _ m B H ok Fr.refl (.bl _) q⟩
/-- == of two texts, two truths -/
theorem v_eqS {a b : Str} (q : Φ m (.bl (decide (a = b)))) :
    VvC K l ρ (fun vs H Q => ∃ x y, vs = [x, y] ∧ rEq x y H Q)
      [.str a, .str b] m Φ := by
  intro Z B H σ vs Q ok is k
  cases is with
  | cons h1 r =>
    cases r with
    | cons h2 r =>
      cases r
      cases h1
      cases h2
      refine ⟨_, _, rfl, rfl, k _ _ m B H ok Fr.refl (.bl _) ?_⟩
      have e : decide (V.str a = V.str b) = decide (a = b) := by
        by_cases h : a = b
        · subst h; simp
        · rw [decide_eq_false h,
            decide_eq_false (fun z => h (V.str.inj z))]
      rw [e]
      exact q
theorem v_neS {a b : Str} (q : Φ m (.bl (!decide (a = b)))) :
    VvC K l ρ (fun vs H Q => ∃ x y, vs = [x, y] ∧ rNe x y H Q)
      [.str a, .str b] m Φ := by
  intro Z B H σ vs Q ok is k
  cases is with
  | cons h1 r =>
    cases r with
    | cons h2 r =>
      cases r
      cases h1
      cases h2
      refine ⟨_, _, rfl, rfl, k _ _ m B H ok Fr.refl (.bl _) ?_⟩
      have e : decide (V.str a = V.str b) = decide (a = b) := by
        by_cases h : a = b
        · subst h; simp
        · rw [decide_eq_false h,
            decide_eq_false (fun z => h (V.str.inj z))]
      rw [e]
      exact q
/-! tests -/
theorem t_test (h : EvC K l te ρ m fun m1 d => ∃ b, d = .bl b ∧ Θ m1 b) :
    TvC K l (tTest te) ρ m Θ := by
  intro Z B H σ Q ok k
  refine h Z B H σ _ ok fun v d m1 B1 H1 o1 f1 i1 g1 => ?_
  obtain ⟨b, rfl, g⟩ := g1
  cases i1
  exact ⟨b, rfl, k b m1 B1 H1 o1 f1 g⟩
theorem t_B (h : EvC K l te ρ m fun m1 d => ∃ b, d = .bl b ∧ Θ m1 b) :
    TvC K l (tB te) ρ m Θ := by
  intro Z B H σ Q ok k
  refine h Z B H σ _ ok fun v d m1 B1 H1 o1 f1 i1 g1 => ?_
  obtain ⟨b, rfl, g⟩ := g1
  cases i1
  exact ⟨b, rfl, k b m1 B1 H1 o1 f1 g⟩
theorem t_and (h : TvC K l t ρ m fun m1 b =>
      if b = true then TvC K l u ρ m1 Θ else Θ m1 false) :
    TvC K l (tAnd t u) ρ m Θ := by
  intro Z B H σ Q ok k
  refine h Z B H σ _ ok fun b m1 B1 H1 o1 f1 g1 => ?_
  cases b with
  | true =>
    exact g1 Z B1 H1 σ Q o1 fun b m2 B2 H2 o2 f2 g2 =>
      k b m2 B2 H2 o2 (f1.trans f2) g2
  | false =>
    exact k false m1 B1 H1 o1 f1 g1
theorem t_or (h : TvC K l t ρ m fun m1 b =>
      if b = true then Θ m1 true else TvC K l u ρ m1 Θ) :
    TvC K l (tOr t u) ρ m Θ := by
  intro Z B H σ Q ok k
  refine h Z B H σ _ ok fun b m1 B1 H1 o1 f1 g1 => ?_
  cases b with
  | false =>
    exact g1 Z B1 H1 σ Q o1 fun b m2 B2 H2 o2 f2 g2 =>
      k b m2 B2 H2 o2 (f1.trans f2) g2
  | true =>
    exact k true m1 B1 H1 o1 f1 g1
theorem t_not (h : TvC K l t ρ m fun m1 b => Θ m1 (!b)) :
    TvC K l (tNot t) ρ m Θ :=
  fun Z B H σ Q ok k => h Z B H σ _ ok fun b m1 B1 H1 o1 f1 g1 =>
    k _ m1 B1 H1 o1 f1 g1
theorem e_andV (h : EvC K l ta ρ m fun m1 d => ∃ b, d = .bl b ∧
      if b = true then EvC K l tb ρ m1 Φ else Φ m1 (.bl false)) :
    EvC K l (tAndV ta tb) ρ m Φ := by
  intro Z B H σ Q ok k
  refine h Z B H σ _ ok fun v d m1 B1 H1 o1 f1 i1 g1 => ?_
  obtain ⟨b, rfl, g⟩ := g1
  cases i1
  refine ⟨b, rfl, ?_⟩
  cases b with
  | true =>
    exact g Z B1 H1 σ Q o1 fun v d m2 B2 H2 o2 f2 i2 g2 =>
      k v d m2 B2 H2 o2 (f1.trans f2) i2 g2
  | false =>
    exact k _ _ m1 B1 H1 o1 f1 (.bl false) g
theorem e_orV (h : EvC K l ta ρ m fun m1 d => ∃ b, d = .bl b ∧
      if b = true then Φ m1 (.bl true) else EvC K l tb ρ m1 Φ) :
    EvC K l (tOrV ta tb) ρ m Φ := by
  intro Z B H σ Q ok k
  refine h Z B H σ _ ok fun v d m1 B1 H1 o1 f1 i1 g1 => ?_
  obtain ⟨b, rfl, g⟩ := g1
  cases i1
  refine ⟨b, rfl, ?_⟩
  cases b with
  | false =>
    exact g Z B1 H1 σ Q o1 fun v d m2 B2 H2 o2 f2 i2 g2 =>
      k v d m2 B2 H2 o2 (f1.trans f2) i2 g2
  | true =>
    exact k _ _ m1 B1 H1 o1 f1 (.bl true) g
theorem e_notV (h : EvC K l ta ρ m fun m1 d => ∃ b, d = .bl b ∧
      Φ m1 (.bl (!b))) : EvC K l (tNotV ta) ρ m Φ := by
  intro Z B H σ Q ok k
  refine h Z B H σ _ ok fun v d m1 B1 H1 o1 f1 i1 g1 => ?_
  obtain ⟨b, rfl, g⟩ := g1
  cases i1
  exact ⟨b, rfl, k _ _ m1 B1 H1 o1 f1 (.bl _) g⟩
theorem e_if (h : TvC K l t ρ m fun m1 b =>
      if b = true then EvC K l ta ρ m1 Φ else EvC K l tb ρ m1 Φ) :
    EvC K l (tIf t ta tb) ρ m Φ := by
  intro Z B H σ Q ok k
  refine h Z B H σ _ ok fun b m1 B1 H1 o1 f1 g1 => ?_
  cases b with
  | true =>
    exact g1 Z B1 H1 σ Q o1 fun v d m2 B2 H2 o2 f2 i2 g2 =>
      k v d m2 B2 H2 o2 (f1.trans f2) i2 g2
  | false =>
    exact g1 Z B1 H1 σ Q o1 fun v d m2 B2 H2 o2 f2 i2 g2 =>
      k v d m2 B2 H2 o2 (f1.trans f2) i2 g2
/-- a <= b <= c of whole numbers -/
theorem e_chain {g h : Int → Int → Bool} {tc : TE}
    (q : EvC K l ta ρ m fun m1 x => EvC K l tb ρ m1 fun m2 y =>
      ∃ i j, x = .int i ∧ y = .int j ∧
      if g i j = true then EvC K l tc ρ m2 fun m3 z =>
        ∃ n, z = .int n ∧ Φ m3 (.bl (h j n))
      else Φ m2 (.bl false)) :
    EvC K l (tChain (rI0 fun i j => .bl (g i j))
      (rI0 fun i j => .bl (h i j)) ta tb tc) ρ m Φ := by
  intro Z B H σ Q ok k
  refine q Z B H σ _ ok fun v1 d1 m1 B1 H1 o1 f1 i1 g1 => ?_
  refine g1 Z B1 H1 σ _ o1 fun v2 d2 m2 B2 H2 o2 f2 i2 g2 => ?_
  obtain ⟨i, j, rfl, rfl, r⟩ := g2
  cases i1
  cases i2
  refine ⟨i, j, rfl, rfl, _, rfl, ?_⟩
  cases e : g i j with
  | false =>
    rw [e] at r
    exact k _ _ m2 B2 H2 o2 (f1.trans f2) (.bl false) r
  | true =>
    rw [e] at r
    refine r Z B2 H2 σ _ o2 fun v3 d3 m3 B3 H3 o3 f3 i3 g3 => ?_
    obtain ⟨n, rfl, z⟩ := g3
    cases i3
    exact ⟨j, n, rfl, rfl,
      k _ _ m3 B3 H3 o3 ((f1.trans f2).trans f3) (.bl _) z⟩
/-! arguments, displays -/
variable {Ψ : Nat → List D → Prop} {tr tA : TA}
theorem a_nil (q : Ψ m []) : AvC K l tNil ρ m Ψ :=
  fun Z B H σ Q ok k => k [] [] m B H ok Fr.refl .nil q
theorem a_cons (h : EvC K l ta ρ m fun m1 x => AvC K l tr ρ m1 fun m2 xs =>
      Ψ m2 (x :: xs)) : AvC K l (tCons ta tr) ρ m Ψ := by
  intro Z B H σ Q ok k
  refine h Z B H σ _ ok fun v d m1 B1 H1 o1 f1 i1 g1 => ?_
  refine g1 Z B1 H1 σ _ o1 fun vs ds m2 B2 H2 o2 f2 i2 g2 => ?_
  exact k _ _ m2 B2 H2 o2 (f1.trans f2) (.cons (i1.mono f2.sub) i2) g2
theorem sqF {B : Hp} {a : Addr} {xs : List V} {o : Obj}
    (h : B a = some (.frz o (.tup xs))) : SqT K B a xs := .inl (.inr ⟨o, h⟩)
theorem Is.newT {B : Hp} {a : Addr} {xs : List V} {ds : List D} {o : Obj}
    (h : B a = some (.frz o (.tup xs))) (hd : o.dict = none)
    (r : IsAll K B xs ds) : Is K B (.ref a) (.tup ds) :=
  .tup (sqF h) r ⟨o, xs, h, hd⟩
theorem e_tup (h : AvC K l tA ρ m fun m1 ds => ds.length ≤ 100000 ∧
      Φ m1 (.tup ds)) : EvC K l (tTupC tA) ρ m Φ := by
  intro Z B H σ Q ok k
  refine h Z B H σ _ ok fun vs ds m1 B1 H1 o1 f1 i1 g1 => ?_
  refine ⟨?_, fun p ob hp hd _ => ?_⟩
  · rw [i1.length]
    exact Nat.le_trans g1.1 (by decide)
  · obtain ⟨o2, f2⟩ := o1.new (o := .frz ob (.tup vs)) hp
    exact k _ _ m1 _ _ o2 (f1.trans f2)
      (.newT upd_same hd (i1.mono f2.sub)) g1.2
theorem e_lst (h : AvC K l tA ρ m fun m1 ds => ds.length ≤ 100000 ∧
      Φ m1 (.lst ds)) : EvC K l (tLst tA) ρ m Φ := by
  intro Z B H σ Q ok k
  refine h Z B H σ _ ok fun vs ds m1 B1 H1 o1 f1 i1 g1 => ?_
  refine ⟨?_, fun p hp => ?_⟩
  · rw [i1.length]
    exact Nat.le_trans g1.1 (by decide)
  · obtain ⟨o2, f2⟩ := o1.new (o := .lst vs) hp
    exact k _ _ m1 _ _ o2 (f1.trans f2)
      (.lst upd_same (i1.mono f2.sub)) g1.2
theorem e_cb {r : List V → Hp → VK → Prop}
    (h : AvC K l tA ρ m fun m1 ds => VvC K l ρ r ds m1 Φ) :
    EvC K l (tCB r tA) ρ m Φ := by
  intro Z B H σ Q ok k
  refine h Z B H σ _ ok fun vs ds m1 B1 H1 o1 f1 i1 g1 => ?_
  exact g1 Z B1 H1 σ vs Q o1 i1 fun v d m2 B2 H2 o2 f2 i2 g2 =>
    k v d m2 B2 H2 o2 (f1.trans f2) i2 g2
/-! statements -/
variable {Nx : Nat → Ro → Prop} {Rt : Nat → D → Prop} {ts tu : TS}
theorem s_next (q : Nx m ρ) : SvC K l tNext ρ m Nx Rt :=
  fun Z B H σ W ok k _ => k σ ρ m B H ok Fr.refl q
theorem s_seq (h : SvC K l ts ρ m (fun m1 ρ1 => SvC K l tu ρ1 m1 Nx Rt)
      Rt) : SvC K l (tSeq ts tu) ρ m Nx Rt := by
  intro Z B H σ W ok k j
  refine h Z B H σ _ ok (fun σ1 ρ1 m1 B1 H1 o1 f1 g1 => ?_) ?_
  · exact g1 Z B1 H1 σ1 W o1
      (fun σ2 ρ2 m2 B2 H2 o2 f2 g2 => k σ2 ρ2 m2 B2 H2 o2 (f1.trans f2) g2)
      fun v d m2 B2 H2 o2 f2 i2 g2 => j v d m2 B2 H2 o2 (f1.trans f2) i2 g2
  · exact fun v d m1 B1 H1 o1 f1 i1 g1 => j v d m1 B1 H1 o1 f1 i1 g1
theorem s_ret (h : EvC K l te ρ m Rt) : SvC K l (tRet te) ρ m Nx Rt :=
  fun Z B H σ W ok _ j => h Z B H σ _ ok fun v d m1 B1 H1 o1 f1 i1 g1 =>
    j v d m1 B1 H1 o1.toBs f1 i1 g1
theorem s_drop (h : EvC K l te ρ m fun m1 _ => Nx m1 ρ) :
    SvC K l (tDrop te) ρ m Nx Rt :=
  fun Z B H σ W ok k _ => h Z B H σ _ ok fun v d m1 B1 H1 o1 f1 i1 g1 =>
    k σ ρ m1 B1 H1 o1 f1 g1
theorem s_if (h : TvC K l t ρ m fun m1 b =>
      if b = true then SvC K l ts ρ m1 Nx Rt else SvC K l tu ρ m1 Nx Rt) :
    SvC K l (tIfS t ts tu) ρ m Nx Rt := by
  intro Z B H σ W ok k j
  refine h Z B H σ _ ok fun b m1 B1 H1 o1 f1 g1 => ?_
  cases b with
  | true =>
    exact g1 Z B1 H1 σ W o1
      (fun σ2 ρ2 m2 B2 H2 o2 f2 g2 => k σ2 ρ2 m2 B2 H2 o2 (f1.trans f2) g2)
      fun v d m2 B2 H2 o2 f2 i2 g2 => j v d m2 B2 H2 o2 (f1.trans f2) i2 g2
  | false =>
    exact g1 Z B1 H1 σ W o1
      (fun σ2 ρ2 m2 B2 H2 o2 f2 g2 => k σ2 ρ2 m2 B2 H2 o2 (f1.trans f2) g2)
      fun v d m2 B2 H2 o2 f2 i2 g2 => j v d m2 B2 H2 o2 (f1.trans f2) i2 g2
/-- a slot set to data -/
theorem Ok.set {Z : Addr → Prop} {B H : Hp} {σ : L2.St} {v : V} {d : D}
    {i : Nat} (h : Ok K l Z m B H σ ρ) (q : Is K B v d) :
    Ok K l Z m B H (σ.set i (some v)) (ρ.set i (some (.dat d))) := by
  refine { h.toBs with len := ?_, sl := ?_, dis := ?_ }
  · rw [List.length_set, List.length_set]
    exact h.len
  · intro j s e
    by_cases hj : i = j
    · subst hj
      have hi : i < ρ.length := by
        obtain ⟨hi, _⟩ := List.getElem?_eq_some_iff.mp e
        simpa using hi
      rw [List.getElem?_set_self hi] at e
      cases e
      exact ⟨v, List.getElem?_set_self (by rw [h.len]; exact hi), q⟩
    · rw [List.getElem?_set_ne hj] at e ⊢
      exact h.sl j s e
  · intro j k ds es a hjk e1 e2
    have n1 : i ≠ j := fun z => by
      subst z
      rcases Nat.lt_or_ge i ρ.length with hi | hi
      · rw [List.getElem?_set_self hi] at e1
        cases e1
      · rw [List.getElem?_eq_none (by rw [List.length_set]; exact hi)] at e1
        cases e1
    have n2 : i ≠ k := fun z => by
      subst z
      rcases Nat.lt_or_ge i ρ.length with hi | hi
      · rw [List.getElem?_set_self hi] at e2
        cases e2
      · rw [List.getElem?_eq_none (by rw [List.length_set]; exact hi)] at e2
        cases e2
    rw [List.getElem?_set_ne n1] at e1 ⊢
    rw [List.getElem?_set_ne n2] at e2 ⊢
    exact h.dis j k ds es a hjk e1 e2
theorem s_asg {i : Nat} (h : EvC K l te ρ m fun m1 d =>
      Nx m1 (ρ.set i (some (.dat d)))) :
    SvC K l (tAsg te (gName i)) ρ m Nx Rt :=
  fun Z B H σ W ok k _ => h Z B H σ _ ok fun v d m1 B1 H1 o1 f1 i1 g1 =>
    k _ _ m1 B1 H1 (o1.set i1) f1 g1
end
end Wt

namespace Wt
open PySem PySem.Spec PyProof.Rows L2
section
variable {K : PySem.W.Frag} {l : Option Addr} {ρ : Ro} {m : Nat}
variable {Φ : Nat → D → Prop} {Θ : Nat → Bool → Prop}
variable {Nx : Nat → Ro → Prop} {Rt : Nat → D → Prop} {ts tb : TS}
variable {ta te tl : TE} {t u : TT} {tA : TA}
variable {Z : Addr → Prop} {B H : Hp} {σ : L2.St}
/-! ### more of the state -/
theorem Ok.same0 (h : Ok K l Z m B H σ ρ) {p : Addr} (hp : H p = none) :
    B p = none := by
  cases e : B p with
  | none => rfl
  | some x => rw [h.sub p x e] at hp; cases hp
/-- a new object that is not data: kept aside -/
theorem Ok.aside {p : Addr} {o : HO} (h : Ok K l Z m B H σ ρ)
    (hp : H p = none) :
    Ok K l (fun a => Z a ∨ a = p) m B (upd H p o) σ ρ := by
  have up : ∀ a x, H a = some x → upd H p o a = some x := same_new hp
  refine ⟨⟨fun b x e => up b x (h.sub b x e), fun a e => ⟨?_, ?_⟩, ?_⟩,
    h.len, ?_, h.dis⟩
  · obtain ⟨g, s, c, q, r⟩ := (h.hand a e).1
    exact ⟨g, s, c, up _ _ q, r⟩
  · exact (h.hand a e).2
  · intro z hz
    rcases hz with hz | rfl
    · obtain ⟨q1, q2, q3⟩ := h.zs z hz
      refine ⟨?_, q2, q3⟩
      cases e : H z with
      | none => exact absurd e q1
      | some x => rw [up z x e]; exact nofun
    · refine ⟨by rw [upd_same]; exact nofun, h.same0 hp, fun e => ?_⟩
      exact (h.hand z e).1.some hp
  · intro i s e
    obtain ⟨v, e1, q⟩ := h.sl i s e
    refine ⟨v, e1, ?_⟩
    cases s with
    | dat d => exact q
    | hand => exact q
    | own ds =>
      obtain ⟨a, xs, rfl, q1, q2, q3, q4, q5⟩ := q
      refine ⟨a, xs, rfl, up _ _ q1, q2, fun z => ?_, q4, q5⟩
      rcases z with z | rfl
      · exact q3 z
      · rw [hp] at q1; cases q1
/-- what is kept aside may be written -/
theorem Ok.write {p : Addr} {o : HO} (h : Ok K l Z m B H σ ρ) (hz : Z p) :
    Ok K l Z m B (upd H p o) σ ρ := by
  obtain ⟨z1, z2, z3⟩ := h.zs p hz
  refine ⟨⟨fun b x e => ?_, fun a e => ⟨?_, (h.hand a e).2⟩, ?_⟩,
    h.len, ?_, h.dis⟩
  · have q : b ≠ p := fun z => by subst z; rw [z2] at e; cases e
    rw [upd_ne q]
    exact h.sub b x e
  · obtain ⟨g, s, c, q, r⟩ := (h.hand a e).1
    have n : a ≠ p := fun z => z3 (z ▸ e)
    exact ⟨g, s, c, by rw [upd_ne n]; exact q, r⟩
  · intro z hz'
    obtain ⟨q1, q2, q3⟩ := h.zs z hz'
    refine ⟨?_, q2, q3⟩
    by_cases n : z = p
    · subst n; rw [upd_same]; exact nofun
    · rw [upd_ne n]; exact q1
  · intro i s e
    obtain ⟨v, e1, q⟩ := h.sl i s e
    refine ⟨v, e1, ?_⟩
    cases s with
    | dat d => exact q
    | hand => exact q
    | own ds =>
      obtain ⟨a, xs, rfl, q1, q2, q3, q4, q5⟩ := q
      have n : a ≠ p := fun z => q3 (z ▸ hz)
      exact ⟨a, xs, rfl, by rw [upd_ne n]; exact q1, q2, q3, q4, q5⟩
/-- what was kept aside becomes data -/
theorem Ok.thaw {p : Addr} {o : HO}
    (h : Ok K l (fun a => Z a ∨ a = p) m B H σ ρ) (hp : H p = some o)
    (hz : ¬ Z p) : Ok K l Z m (upd B p o) H σ ρ := by
  obtain ⟨z1, z2, z3⟩ := h.zs p (.inr rfl)
  have sm : Same B (upd B p o) := same_new z2
  refine ⟨⟨fun b x e => ?_, fun a e => ⟨(h.hand a e).1, ?_⟩, ?_⟩,
    h.len, ?_, h.dis⟩
  · by_cases q : b = p
    · subst q; rw [upd_same] at e; cases e; exact hp
    · rw [upd_ne q] at e; exact h.sub b x e
  · rw [upd_ne (fun (z : a = p) => z3 (z ▸ e))]
    exact (h.hand a e).2
  · intro z hz'
    obtain ⟨q1, q2, q3⟩ := h.zs z (.inl hz')
    refine ⟨q1, ?_, q3⟩
    rw [upd_ne (fun (n : z = p) => hz (n ▸ hz'))]
    exact q2
  · intro i s e
    obtain ⟨v, e1, q⟩ := h.sl i s e
    refine ⟨v, e1, ?_⟩
    cases s with
    | dat d => exact Is.mono sm q
    | hand => exact q
    | own ds =>
      obtain ⟨a, xs, rfl, q1, q2, q3, q4, q5⟩ := q
      have n : a ≠ p := fun z => q3 (.inr z)
      exact ⟨a, xs, rfl, q1, by rw [upd_ne n]; exact q2,
        fun z => q3 (.inl z), q4, q5.mono sm⟩
/-- a slot that is told nothing of may hold anything -/
theorem Ok.unset {j : Nat} {v : Option V} {s : Option Sl}
    (h : Ok K l Z m B H (σ.set j v) (ρ.set j s)) (e : ρ[j]? = some none) :
    Ok K l Z m B H σ ρ := by
  have ne : ∀ (i : Nat) x, ρ[i]? = some (some x) → j ≠ i := fun i x q z => by
    subst z; rw [e] at q; cases q
  refine ⟨h.toBs, by simpa using h.len, fun i s q => ?_,
    fun i k ds es a n q1 q2 => ?_⟩
  · obtain ⟨w, e1, z⟩ := h.sl i s (by rw [List.getElem?_set_ne (ne i s q)]; exact q)
    rw [List.getElem?_set_ne (ne i s q)] at e1
    exact ⟨w, e1, z⟩
  · have z := h.dis i k ds es a n
      (by rw [List.getElem?_set_ne (ne i _ q1)]; exact q1)
      (by rw [List.getElem?_set_ne (ne k _ q2)]; exact q2)
    rw [List.getElem?_set_ne (ne i _ q1), List.getElem?_set_ne (ne k _ q2)] at z
    exact z
theorem Fr.weak {Z' : Addr → Prop} {B H B2 H2 : Hp} (f : Fr Z' B H B2 H2)
    (h : ∀ z, Z z → Z' z) : Fr Z B H B2 H2 :=
  ⟨f.sub, fun z q => f.kept z (h z q)⟩
/-! ### comprehensions -/
/-- between two turns: the list at A is what was made -/
def LcW (K : PySem.W.Frag) (l : Option Addr) (Z : Addr → Prop) (ρ : Ro)
    (σ : L2.St) (B H : Hp) (A : Addr) (I : Nat → Nat → List D → Prop)
    (i : Nat) (H' : Hp) : Prop :=
  ∃ n acc xs B', Ok K l (fun a => Z a ∨ a = A) n B' H' σ ρ ∧
    Fr Z B H B' H' ∧ H' A = some (.lst xs) ∧ IsAll K B' xs acc ∧
    I i n acc ∧ acc.length = i
theorem lcw_start {A : Addr} {I : Nat → Nat → List D → Prop}
    (ok : Ok K l Z m B H σ ρ) (hA : H A = none) (h0 : I 0 m []) :
    LcW K l Z ρ σ B H A I 0 (upd H A (.lst [])) := by
  refine ⟨m, [], [], B, ok.aside hA, ⟨Same.refl B, fun z hz => ?_⟩,
    upd_same, .nil, h0, rfl⟩
  exact upd_ne fun e => (ok.zs z hz).1 (e ▸ hA)
theorem lcw_turn {A : Addr} {I : Nat → Nat → List D → Prop} {i j : Nat}
    {x : V} {H' : Hp} {P : D → Prop} (hz : ¬ Z A) (hj : ρ[j]? = some none)
    (w : LcW K l Z ρ σ B H A I i H')
    (hx : ∀ B', Same B B' → ∃ d, Is K B' x d ∧ P d) (hi : i < 100000)
    (he : ∀ d n acc, P d → I i n acc → acc.length = i →
      EvC K l te (ρ.set j (some (.dat d))) n fun n2 y =>
        I (i + 1) n2 (acc ++ [y])) :
    gName j x (wipe σ [j]) H' fun σ2 H2 => wipe σ2 [j] = wipe σ [j] ∧
      tYes σ2 H2 fun b H3 => if b = true then te σ2 H3 fun y H4 =>
        ∃ acc, H4 A = some (.lst acc) ∧ acc.length < sizeLine ∧
          LcW K l Z ρ σ B H A I (i + 1) (upd H4 A (.lst (acc ++ [y])))
      else LcW K l Z ρ σ B H A I (i + 1) H3 := by
  obtain ⟨n, acc, xs, B', ok, fr, hA, is, hI, hl⟩ := w
  obtain ⟨d, hd, hP⟩ := hx B' fr.sub
  have e1 : (wipe σ [j]).set j (some x) = σ.set j (some x) := by
    show (σ.set j none).set j (some x) = _
    rw [List.set_set]
  unfold gName tYes
  dsimp only
  rw [e1, if_pos rfl]
  refine ⟨?_, ?_⟩
  · show (σ.set j (some x)).set j none = σ.set j none
    rw [List.set_set]
  · refine he d n acc hP hI hl _ B' H' _ _ (ok.set hd) fun v y n2 B2 H2 o2 f2 i2 g2 => ?_
    have hA2 : H2 A = some (.lst xs) := (f2.kept A (.inr rfl)).trans hA
    refine ⟨xs, hA2, ?_, n2, acc ++ [y], xs ++ [v], B2,
      (o2.unset hj).write (.inr rfl), ?_, upd_same,
      (is.mono f2.sub).append (.cons i2 .nil), g2, by simp [hl]⟩
    · rw [is.length, hl]
      exact Nat.lt_of_lt_of_le hi (by decide)
    · refine ⟨fr.sub.trans f2.sub, fun z hz' => ?_⟩
      rw [upd_ne (fun (e : z = A) => hz (e ▸ hz'))]
      exact (f2.kept z (.inl hz')).trans (fr.kept z hz')
theorem lcw_end {A : Addr} {I : Nat → Nat → List D → Prop} {i : Nat}
    {H' : Hp} {Q : VK} (hz : ¬ Z A) (w : LcW K l Z ρ σ B H A I i H')
    (q : ∀ n acc, acc.length = i → I i n acc → Φ n (.lst acc))
    (k : ∀ v d m' B2 H2, Ok K l Z m' B2 H2 σ ρ → Fr Z B H B2 H2 →
      Is K B2 v d → Φ m' d → Q v H2) : Q (.ref A) H' := by
  obtain ⟨n, acc, xs, B', ok, fr, hA, is, hI, hl⟩ := w
  have z2 := (ok.zs A (.inr rfl)).2.1
  exact k _ _ n _ _ (ok.thaw hA hz) ⟨fr.sub.trans (same_new z2), fr.kept⟩
    (.lst upd_same (is.mono (same_new z2))) (q n acc hl hI)
theorem e_lcT {j : Nat} (hj : ρ[j]? = some none)
    (h : EvC K l tl ρ m fun m1 x => ∃ ds, x = .tup ds ∧ ds.length ≤ 50000 ∧
      ∃ I : Nat → Nat → List D → Prop, I 0 m1 [] ∧
      (∀ i n acc d, ds[i]? = some d → I i n acc → acc.length = i →
        EvC K l te (ρ.set j (some (.dat d))) n fun n2 y =>
          I (i + 1) n2 (acc ++ [y])) ∧
      ∀ n acc, acc.length = ds.length → I ds.length n acc →
        Φ n (.lst acc)) :
    EvC K l (tLc (iTup K tl) (gName j) tYes te [j]) ρ m Φ := by
  intro Z B H σ Q ok k
  refine h Z B H σ _ ok fun v x m1 B1 H1 o1 f1 i1 g1 => ?_
  obtain ⟨ds, rfl, hl, I, h0, hs, hd⟩ := g1
  cases i1 with
  | @tup a xs ds hT is =>
    refine ⟨a, rfl, ⟨xs, sameT o1.sub hT⟩, fun A hA => ?_⟩
    have hz : ¬ Z A := fun z => (o1.zs A z).1 hA
    refine lc_tup (xs := xs) (LcW K l Z ρ σ B1 H1 A I)
      (lcw_start o1 hA h0) (fun i H' _ w => ?_) (fun i x H' e w => ?_)
      fun H' w => ?_
    · obtain ⟨n, acc, ys, B', ok', fr', _⟩ := w
      exact sameT ok'.sub (sameT fr'.sub hT)
    · have hi : i < xs.length := (List.getElem?_eq_some_iff.mp e).1
      refine lcw_turn (P := fun d => ds[i]? = some d) hz hj w
        (fun B' sb => ?_) (by rw [is.length] at hi; omega)
        fun d n acc => hs i n acc d
      obtain ⟨d, e2, q⟩ := (is.mono sb).get e
      exact ⟨d, q, e2⟩
    · rw [is.length] at w
      exact lcw_end hz w hd fun v d m' B2 H2 o2 f2 i2 g2 =>
        k v d m' B2 H2 o2 (f1.trans f2) i2 g2
theorem e_lcL {j : Nat} (hj : ρ[j]? = some none)
    (h : EvC K l tl ρ m fun m1 x => ∃ ds, x = .lst ds ∧ ds.length ≤ 50000 ∧
      ∃ I : Nat → Nat → List D → Prop, I 0 m1 [] ∧
      (∀ i n acc d, ds[i]? = some d → I i n acc → acc.length = i →
        EvC K l te (ρ.set j (some (.dat d))) n fun n2 y =>
          I (i + 1) n2 (acc ++ [y])) ∧
      ∀ n acc, acc.length = ds.length → I ds.length n acc →
        Φ n (.lst acc)) :
    EvC K l (tLc (iList K tl) (gName j) tYes te [j]) ρ m Φ := by
  intro Z B H σ Q ok k
  refine h Z B H σ _ ok fun v x m1 B1 H1 o1 f1 i1 g1 => ?_
  obtain ⟨ds, rfl, hl, I, h0, hs, hd⟩ := g1
  cases i1 with
  | @lst a xs ds hT is =>
    refine ⟨a, rfl, ⟨xs, SqL.of (o1.sub _ _ hT)⟩, fun A hA => ?_⟩
    have hz : ¬ Z A := fun z => (o1.zs A z).1 hA
    refine lc_list (xs := xs) (LcW K l Z ρ σ B1 H1 A I)
      (lcw_start o1 hA h0) (fun i H' _ w => ?_) (fun i x H' e w => ?_)
      fun H' w => ?_
    · obtain ⟨n, acc, ys, B', ok', fr', _⟩ := w
      exact SqL.of (ok'.sub _ _ (fr'.sub _ _ hT))
    · have hi : i < xs.length := (List.getElem?_eq_some_iff.mp e).1
      refine lcw_turn (P := fun d => ds[i]? = some d) hz hj w
        (fun B' sb => ?_) (by rw [is.length] at hi; omega)
        fun d n acc => hs i n acc d
      obtain ⟨d, e2, q⟩ := (is.mono sb).get e
      exact ⟨d, q, e2⟩
    · rw [is.length] at w
      exact lcw_end hz w hd fun v d m' B2 H2 o2 f2 i2 g2 =>
        k v d m' B2 H2 o2 (f1.trans f2) i2 g2
theorem e_lcR {j : Nat} (hj : ρ[j]? = some none)
    (h : AvC K l tA ρ m fun m1 x => ∃ c : Int, x = [.int c] ∧ c ≤ 50000 ∧
      -50000 ≤ c ∧
      ∃ I : Nat → Nat → List D → Prop, I 0 m1 [] ∧
      (∀ i n acc, i < c.toNat → I i n acc → acc.length = i →
        EvC K l te (ρ.set j (some (.dat (.int i)))) n fun n2 y =>
          I (i + 1) n2 (acc ++ [y])) ∧
      ∀ n acc, acc.length = c.toNat → I c.toNat n acc → Φ n (.lst acc)) :
    EvC K l (tLc (iRng1 tA) (gName j) tYes te [j]) ρ m Φ := by
  intro Z B H σ Q ok k
  refine h Z B H σ _ ok fun vs x m1 B1 H1 o1 f1 i1 g1 => ?_
  obtain ⟨c, rfl, hc, hc2, I, h0, hs, hd⟩ := g1
  cases i1 with
  | cons i1 r =>
    cases r
    cases i1
    refine ⟨c, rfl, by omega, by omega, fun A hA => ?_⟩
    have hz : ¬ Z A := fun z => (o1.zs A z).1 hA
    refine lc_range (lo := 0) (n := c.toNat) (LcW K l Z ρ σ B1 H1 A I)
      (lcw_start o1 hA h0) (fun i H' hi w => ?_) fun H' w => ?_
    · have e0 : (0 : Int) + (i : Int) = (i : Int) := Int.zero_add _
      rw [e0]
      exact lcw_turn (P := fun d => d = .int i) hz hj w
        (fun B' sb => ⟨_, .int _, rfl⟩) (by omega)
        fun d n acc e => by subst e; exact hs i n acc hi
    · exact lcw_end hz w hd fun v d m' B2 H2 o2 f2 i2 g2 =>
        k v d m' B2 H2 o2 (f1.trans f2) i2 g2
/-! ### loops -/
theorem s_forT {j : Nat}
    (h : EvC K l tl ρ m fun m1 x => ∃ ds, x = .tup ds ∧
      ∃ I : Nat → Nat → Ro → Prop, I 0 m1 ρ ∧
      (∀ i n ρ' d, ds[i]? = some d → I i n ρ' →
        SvC K l tb (ρ'.set j (some (.dat d))) n (fun n2 ρ2 =>
          I (i + 1) n2 ρ2) Rt) ∧
      ∀ n ρ', I ds.length n ρ' → Nx n ρ') :
    SvC K l (tFor (iTup K tl) (gName j) tb) ρ m Nx Rt := by
  intro Z B H σ W ok k jr
  refine h Z B H σ _ ok fun v x m1 B1 H1 o1 f1 i1 g1 => ?_
  obtain ⟨ds, rfl, I, h0, hs, hd⟩ := g1
  cases i1 with
  | @tup a xs ds hT is =>
    refine ⟨a, rfl, ⟨xs, sameT o1.sub hT⟩, ?_⟩
    refine for_tup (xs := xs) (fun i σ' H' => ∃ n ρ' B',
      Ok K l Z n B' H' σ' ρ' ∧ Fr Z B1 H1 B' H' ∧ I i n ρ')
      ⟨m1, ρ, B1, o1, Fr.refl, h0⟩ (fun i σ' H' _ w => ?_)
      (fun i x σ' H' e w => ?_) fun σ' H' w => ?_
    · obtain ⟨n, ρ', B', ok', fr', _⟩ := w
      exact sameT ok'.sub (sameT fr'.sub hT)
    · obtain ⟨n, ρ', B', ok', fr', hI⟩ := w
      obtain ⟨d, e2, q⟩ := (is.mono fr'.sub).get e
      refine hs i n ρ' d e2 hI Z B' H' _ _ (ok'.set q)
        (fun σ2 ρ2 m2 B2 H2 o2 f2 g2 => ⟨m2, ρ2, B2, o2, fr'.trans f2, g2⟩)
        fun v d m2 B2 H2 o2 f2 i2 g2 => ?_
      exact jr v d m2 B2 H2 o2 ((f1.trans fr').trans f2) i2 g2
    · obtain ⟨n, ρ', B', ok', fr', hI⟩ := w
      rw [is.length] at hI
      exact k σ' ρ' n B' H' ok' (f1.trans fr') (hd n ρ' hI)
theorem s_forL {j : Nat}
    (h : EvC K l tl ρ m fun m1 x => ∃ ds, x = .lst ds ∧
      ∃ I : Nat → Nat → Ro → Prop, I 0 m1 ρ ∧
      (∀ i n ρ' d, ds[i]? = some d → I i n ρ' →
        SvC K l tb (ρ'.set j (some (.dat d))) n (fun n2 ρ2 =>
          I (i + 1) n2 ρ2) Rt) ∧
      ∀ n ρ', I ds.length n ρ' → Nx n ρ') :
    SvC K l (tFor (iList K tl) (gName j) tb) ρ m Nx Rt := by
  intro Z B H σ W ok k jr
  refine h Z B H σ _ ok fun v x m1 B1 H1 o1 f1 i1 g1 => ?_
  obtain ⟨ds, rfl, I, h0, hs, hd⟩ := g1
  cases i1 with
  | @lst a xs ds hT is =>
    refine ⟨a, rfl, ⟨xs, SqL.of (o1.sub _ _ hT)⟩, ?_⟩
    refine for_list (xs := xs) (fun i σ' H' => ∃ n ρ' B',
      Ok K l Z n B' H' σ' ρ' ∧ Fr Z B1 H1 B' H' ∧ I i n ρ')
      ⟨m1, ρ, B1, o1, Fr.refl, h0⟩ (fun i σ' H' _ w => ?_)
      (fun i x σ' H' e w => ?_) fun σ' H' w => ?_
    · obtain ⟨n, ρ', B', ok', fr', _⟩ := w
      exact SqL.of (ok'.sub _ _ (fr'.sub _ _ hT))
    · obtain ⟨n, ρ', B', ok', fr', hI⟩ := w
      obtain ⟨d, e2, q⟩ := (is.mono fr'.sub).get e
      refine hs i n ρ' d e2 hI Z B' H' _ _ (ok'.set q)
        (fun σ2 ρ2 m2 B2 H2 o2 f2 g2 => ⟨m2, ρ2, B2, o2, fr'.trans f2, g2⟩)
        fun v d m2 B2 H2 o2 f2 i2 g2 => ?_
      exact jr v d m2 B2 H2 o2 ((f1.trans fr').trans f2) i2 g2
    · obtain ⟨n, ρ', B', ok', fr', hI⟩ := w
      rw [is.length] at hI
      exact k σ' ρ' n B' H' ok' (f1.trans fr') (hd n ρ' hI)
theorem s_forR {j : Nat}
    (h : AvC K l tA ρ m fun m1 x => ∃ c : Int, x = [.int c] ∧
      c < 2 ^ 62 ∧ -(2 ^ 62) ≤ c ∧
      ∃ I : Nat → Nat → Ro → Prop, I 0 m1 ρ ∧
      (∀ (i n : Nat) ρ', i < c.toNat → I i n ρ' →
        SvC K l tb (ρ'.set j (some (.dat (.int i)))) n (fun n2 ρ2 =>
          I (i + 1) n2 ρ2) Rt) ∧
      ∀ n ρ', I c.toNat n ρ' → Nx n ρ') :
    SvC K l (tFor (iRng1 tA) (gName j) tb) ρ m Nx Rt := by
  intro Z B H σ W ok k jr
  refine h Z B H σ _ ok fun vs x m1 B1 H1 o1 f1 i1 g1 => ?_
  obtain ⟨c, rfl, hc, hc2, I, h0, hs, hd⟩ := g1
  cases i1 with
  | cons i1 r =>
    cases r
    cases i1
    refine ⟨c, rfl, hc2, hc, ?_⟩
    refine for_range (lo := 0) (n := c.toNat) (fun i σ' H' => ∃ n ρ' B',
      Ok K l Z n B' H' σ' ρ' ∧ Fr Z B1 H1 B' H' ∧ I i n ρ')
      ⟨m1, ρ, B1, o1, Fr.refl, h0⟩
      (fun i σ' H' hi w => ?_) fun σ' H' w => ?_
    · obtain ⟨n, ρ', B', ok', fr', hI⟩ := w
      have e0 : (0 : Int) + (i : Int) = (i : Int) := Int.zero_add _
      rw [e0]
      refine hs i n ρ' hi hI Z B' H' _ _ (ok'.set (.int _))
        (fun σ2 ρ2 m2 B2 H2 o2 f2 g2 => ⟨m2, ρ2, B2, o2, fr'.trans f2, g2⟩)
        fun v d m2 B2 H2 o2 f2 i2 g2 => ?_
      exact jr v d m2 B2 H2 o2 ((f1.trans fr').trans f2) i2 g2
    · obtain ⟨n, ρ', B', ok', fr', hI⟩ := w
      exact k σ' ρ' n B' H' ok' (f1.trans fr') (hd n ρ' hI)
end
end Wt

/-! Promises by data; built-ins over data; own lists; repr. -/
namespace Wt
open PySem PySem.Spec PyProof.Rows L2
/-! ### promises -/
/-- a def that reads data and tells data -/
def SpP (K : PySem.W.Frag) (pre : List D → Prop) (F : List D → D) : Sp :=
  fun vs H Q _ => ∃ B ds, Same B H ∧ IsAll K B vs ds ∧ pre ds ∧
    ∀ v B2 H2, Same B B2 → Same H H2 → Same B2 H2 →
      (∀ a, H a ≠ none → B a = none → B2 a = none) →
      Is K B2 v (F ds) → Q v H2
/-- a def whose first argument is the hand -/
def SpH (K : PySem.W.Frag) (pre : Nat → List D → Prop)
    (Ψ : List D → Nat → Nat → D → Prop) : Sp :=
  fun vs H Q _ => ∃ l ws B ds m, vs = .ref l :: ws ∧ Same B H ∧
    Hand H l m ∧ B l = none ∧ IsAll K B ws ds ∧ pre m ds ∧
    ∀ v d m' B2 H2, Hand H2 l m' → Same B B2 → Same B2 H2 →
      (∀ a o, a ≠ l → H a = some o → H2 a = some o) →
      (∀ a, H a ≠ none → B a = none → B2 a = none) →
      Ψ ds m m' d → Is K B2 v d → Q v H2
section
variable {K : PySem.W.Frag} {l : Option Addr} {ρ : Ro} {m : Nat}
variable {Φ : Nat → D → Prop} {Θ : Nat → Bool → Prop}
variable {Nx : Nat → Ro → Prop} {Rt : Nat → D → Prop} {ts tb : TS}
variable {ta te tl : TE} {t u : TT} {tA tK : TA}
variable {Z : Addr → Prop} {B H : Hp} {σ : L2.St}
theorem v_P {pre : List D → Prop} {F : List D → D} {ds : List D}
    (hp : pre ds) (q : Φ m (F ds)) {E : XK} :
    VvC K l ρ (fun vs H Q => SpP K pre F vs H Q E) ds m Φ := by
  intro Z B H σ vs Q ok is k
  refine ⟨B, ds, ok.sub, is, hp, fun v B2 H2 s1 s2 s3 fr iv => ?_⟩
  obtain ⟨o2, f2⟩ := ok.step (m' := m) s1 s3
    (fun a e => by
      obtain ⟨g, s, c, q, r⟩ := (ok.hand a e).1
      exact ⟨g, s, c, s2 _ _ q, r⟩)
    (fun a o _ e => s2 a o e) fr
  exact k v _ m B2 H2 o2 f2 iv q
theorem e_callP {pre : List D → Prop} {F : List D → D} {E : XK}
    (h : AvC K l tA ρ m fun m1 ds => pre ds ∧ Φ m1 (F ds)) :
    EvC K l (tCall (SpP K pre F) [] E tA) ρ m Φ := by
  intro Z B H σ Q ok k
  refine h Z B H σ _ ok fun vs ds m1 B1 H1 o1 f1 i1 g1 => ?_
  rw [List.append_nil]
  exact v_P g1.1 g1.2 Z B1 H1 σ vs Q o1 i1 fun v d m2 B2 H2 o2 f2 i2 g2 =>
    k v d m2 B2 H2 o2 (f1.trans f2) i2 g2
/-- .. with keywords alone; perm: their values in the parameters' order -/
theorem e_callPK {pre : List D → Prop} {F : List D → D} {E : XK}
    {gV : List V → List V → List V} {gD : List D → List D}
    (hg : ∀ B vs ds, IsAll K B vs ds → IsAll K B (gV [] vs) (gD ds))
    (h : AvC K l tK ρ m fun m1 ds => pre (gD ds) ∧ Φ m1 (F (gD ds))) :
    EvC K l (tCallK (SpP K pre F) gV E tNil tK) ρ m Φ := by
  intro Z B H σ Q ok k
  refine h Z B H σ _ ok fun vs ds m1 B1 H1 o1 f1 i1 g1 => ?_
  exact v_P g1.1 g1.2 Z B1 H1 σ _ Q o1 (hg _ _ _ i1)
    fun v d m2 B2 H2 o2 f2 i2 g2 => k v d m2 B2 H2 o2 (f1.trans f2) i2 g2
theorem e_callH {pre : Nat → List D → Prop}
    {Ψ : List D → Nat → Nat → D → Prop} {E : XK} {i : Nat}
    (hi : ρ[i]? = some (some .hand))
    (h : AvC K l tA ρ m fun m1 ds => pre m1 ds ∧
      ∀ m2 d, Ψ ds m1 m2 d → Φ m2 d) :
    EvC K l (tCall (SpH K pre Ψ) [] E (tCons (tVar i) tA)) ρ m Φ := by
  intro Z B H σ Q ok k
  obtain ⟨v0, e0, a, ha, hv⟩ := ok.sl i _ hi
  subst hv
  refine ⟨_, e0, ?_⟩
  refine h Z B H σ _ ok fun vs ds m1 B1 H1 o1 f1 i1 g1 => ?_
  show SpH K pre Ψ (V.ref a :: vs ++ []) H1 Q E
  rw [List.append_nil]
  refine ⟨a, vs, B1, ds, m1, rfl, o1.sub, (o1.hand a ha).1,
    (o1.hand a ha).2, i1, g1.1, fun v d m2 B2 H2 hh s1 s2 s3 s4 p iv => ?_⟩
  obtain ⟨o2, f2⟩ := o1.step (m' := m2) s1 s2
    (fun b e => by rw [ha] at e; cases e; exact hh)
    (fun b o n e => s3 b o (fun z => n (z ▸ ha)) e) s4
  exact k v d m2 B2 H2 o2 (f1.trans f2) iv (g1.2 m2 d p)
/-! ### bodies -/
def datR (ds : List D) : Ro := ds.map fun d => some (.dat d)
theorem isAll_get {B : Hp} {vs : List V} {ds : List D} {i : Nat} {s : Sl}
    (h : IsAll K B vs ds) (e : (datR ds)[i]? = some (some s)) :
    ∃ v, (vs.map some)[i]? = some (some v) ∧ SlV K l Z B H v s := by
  unfold datR at e
  rw [List.getElem?_map] at e
  cases q : ds[i]? with
  | none => rw [q] at e; cases e
  | some d =>
    rw [q] at e
    cases e
    obtain ⟨v, e2, z⟩ := h.got q
    exact ⟨v, by rw [List.getElem?_map, e2]; rfl, z⟩
theorem body_P {pre : List D → Prop} {F : List D → D} {vs : List V}
    {Q : VK} {E : XK} {N : List Str} (h : SpP K pre F vs H Q E)
    (hb : ∀ ds, pre ds → vs.length = ds.length →
      SvC K none ts (datR ds ++ List.replicate (N.length - ds.length) none)
        0 (fun _ _ => F ds = .non) fun _ d => d = F ds) :
    ts { nx := fun _ H' => Q .non H', rt := Q } (start N vs) H := by
  obtain ⟨B, ds, sb, is, hp, k⟩ := h
  have hl := is.length
  have ok : Ok K none (fun a => H a ≠ none ∧ B a = none) 0 B H
      (start N vs) (datR ds ++ List.replicate (N.length - ds.length) none) := by
    refine ⟨⟨sb, fun a e => (nomatch e), fun z h => ⟨h.1, h.2, nofun⟩⟩,
      ?_, fun i s e => ?_, fun i j ds1 es a n e1 => ?_⟩
    · unfold L2.start datR
      simp [hl]
    · rcases Nat.lt_or_ge i ds.length with hi | hi
      · rw [List.getElem?_append_left (by unfold datR; simpa using hi)] at e
        obtain ⟨v, e2, q⟩ := isAll_get (l := none)
          (Z := fun a => H a ≠ none ∧ B a = none) (H := H) is e
        refine ⟨v, ?_, q⟩
        unfold L2.start
        rw [List.getElem?_append_left (by simpa [hl] using hi)]
        exact e2
      · rw [List.getElem?_append_right (by unfold datR; simpa using hi)] at e
        rw [List.getElem?_replicate] at e
        split at e <;> cases e
    · rcases Nat.lt_or_ge i ds.length with hi | hi
      · rw [List.getElem?_append_left (by unfold datR; simpa using hi)] at e1
        unfold datR at e1
        rw [List.getElem?_map] at e1
        cases q : ds[i]? with
        | none => rw [q] at e1; cases e1
        | some d => rw [q] at e1; cases e1
      · rw [List.getElem?_append_right (by unfold datR; simpa using hi)] at e1
        rw [List.getElem?_replicate] at e1
        split at e1 <;> cases e1
  have fin : ∀ v d m' B2 H2, Bs none (fun a => H a ≠ none ∧ B a = none) m' B2 H2 →
      Fr (fun a => H a ≠ none ∧ B a = none) B H B2 H2 → Is K B2 v d →
      d = F ds → Q v H2 := by
    intro v d m' B2 H2 o2 f2 i2 e
    subst e
    refine k v B2 H2 f2.sub (fun b o e => ?_) o2.sub
      (fun a h1 h2 => (o2.zs a ⟨h1, h2⟩).2.1) i2
    cases q : B b with
    | none => rw [f2.kept b ⟨by rw [e]; exact nofun, q⟩]; exact e
    | some x =>
      rw [sb b x q] at e
      cases e
      exact o2.sub b _ (f2.sub b _ q)
  exact hb ds hp hl _ B H _ _ ok
    (fun σ' ρ' m' B2 H2 o2 f2 g2 => fin .non .non m' B2 H2 o2.toBs f2 .non g2.symm)
    fin
theorem body_H {pre : Nat → List D → Prop}
    {Ψ : List D → Nat → Nat → D → Prop} {vs : List V}
    {Q : VK} {E : XK} {N : List Str} (h : SpH K pre Ψ vs H Q E)
    (hb : ∀ a ds m, pre m ds → vs.length = ds.length + 1 →
      SvC K (some a) ts (some .hand :: (datR ds ++
        List.replicate (N.length - (ds.length + 1)) none))
        m (fun m' _ => Ψ ds m m' .non) (Ψ ds m)) :
    ts { nx := fun _ H' => Q .non H', rt := Q } (start N vs) H := by
  obtain ⟨a, ws, B, ds, m, rfl, sb, hh, hB, is, hp, k⟩ := h
  have hl := is.length
  have ok : Ok K (some a) (fun b => H b ≠ none ∧ B b = none ∧ b ≠ a) m B H
      (start N (.ref a :: ws)) (some .hand :: (datR ds ++
        List.replicate (N.length - (ds.length + 1)) none)) := by
    refine ⟨⟨sb, fun b e => ?_, fun z h => ⟨h.1, h.2.1, fun e => ?_⟩⟩,
      ?_, fun i s e => ?_, fun i j ds1 es b n e1 => ?_⟩
    · cases e
      exact ⟨hh, hB⟩
    · cases e
      exact h.2.2 rfl
    · unfold L2.start datR
      simp [hl]
    · cases i with
      | zero =>
        cases e
        exact ⟨.ref a, rfl, a, rfl, rfl⟩
      | succ i =>
        rw [List.getElem?_cons_succ] at e
        rcases Nat.lt_or_ge i ds.length with hi | hi
        · rw [List.getElem?_append_left (by unfold datR; simpa using hi)] at e
          obtain ⟨v, e2, q⟩ := isAll_get (l := some a)
            (Z := fun b => H b ≠ none ∧ B b = none ∧ b ≠ a) (H := H) is e
          refine ⟨v, ?_, q⟩
          unfold L2.start
          rw [List.map_cons, List.cons_append, List.getElem?_cons_succ,
            List.getElem?_append_left (by simpa [hl] using hi)]
          exact e2
        · rw [List.getElem?_append_right (by unfold datR; simpa using hi)] at e
          rw [List.getElem?_replicate] at e
          split at e <;> cases e
    · cases i with
      | zero => cases e1
      | succ i =>
        rw [List.getElem?_cons_succ] at e1
        rcases Nat.lt_or_ge i ds.length with hi | hi
        · rw [List.getElem?_append_left (by unfold datR; simpa using hi)] at e1
          unfold datR at e1
          rw [List.getElem?_map] at e1
          cases q : ds[i]? with
          | none => rw [q] at e1; cases e1
          | some d => rw [q] at e1; cases e1
        · rw [List.getElem?_append_right (by unfold datR; simpa using hi)] at e1
          rw [List.getElem?_replicate] at e1
          split at e1 <;> cases e1
  have fin : ∀ v d m' B2 H2,
      Bs (some a) (fun b => H b ≠ none ∧ B b = none ∧ b ≠ a) m' B2 H2 →
      Fr (fun b => H b ≠ none ∧ B b = none ∧ b ≠ a) B H B2 H2 →
      Is K B2 v d → Ψ ds m m' d → Q v H2 := by
    intro v d m' B2 H2 o2 f2 i2 e
    refine k v d m' B2 H2 (o2.hand a rfl).1 f2.sub o2.sub
      (fun b o n e => ?_) (fun b h1 h2 => ?_) e i2
    · cases q : B b with
      | none =>
        rw [f2.kept b ⟨by rw [e]; exact nofun, q, n⟩]
        exact e
      | some x =>
        rw [sb b x q] at e
        cases e
        exact o2.sub b _ (f2.sub b _ q)
    · by_cases n : b = a
      · subst n
        exact (o2.hand b rfl).2
      · exact (o2.zs b ⟨h1, h2, n⟩).2.1
  exact hb a ds m hp (by simp [hl]) _ B H _ _ ok
    (fun σ' ρ' m' B2 H2 o2 f2 g2 => fin .non .non m' B2 H2 o2.toBs f2 .non g2)
    fin
/-! ### own lists -/
theorem Ok.setOwn {p : Addr} {xs : List V} {ds : List D} {i : Nat}
    (h : Ok K l (fun a => Z a ∨ a = p) m B H σ ρ) (hz : ¬ Z p)
    (hp : H p = some (.lst xs)) (is : IsAll K B xs ds) :
    Ok K l Z m B H (σ.set i (some (.ref p))) (ρ.set i (some (.own ds))) := by
  obtain ⟨z1, z2, z3⟩ := h.zs p (.inr rfl)
  have at_i : ∀ {s : Sl}, (ρ.set i (some (.own ds)))[i]? = some (some s) →
      i < ρ.length ∧ s = .own ds := by
    intro s e
    obtain ⟨hi, q⟩ := List.getElem?_eq_some_iff.mp e
    rw [List.length_set] at hi
    rw [List.getElem?_set_self hi] at e
    cases e
    exact ⟨hi, rfl⟩
  refine ⟨⟨h.sub, h.hand, fun z hz' => h.zs z (.inl hz')⟩, ?_, ?_, ?_⟩
  · rw [List.length_set, List.length_set]
    exact h.len
  · intro j s e
    by_cases hj : i = j
    · subst hj
      obtain ⟨hi, rfl⟩ := at_i e
      exact ⟨.ref p, List.getElem?_set_self (by rw [h.len]; exact hi),
        p, xs, rfl, hp, z2, hz, z3, is⟩
    · rw [List.getElem?_set_ne hj] at e ⊢
      obtain ⟨v, e1, q⟩ := h.sl j s e
      refine ⟨v, e1, ?_⟩
      cases s with
      | dat d => exact q
      | hand => exact q
      | own es =>
        obtain ⟨a, ys, rfl, q1, q2, q3, q4, q5⟩ := q
        exact ⟨a, ys, rfl, q1, q2, fun z => q3 (.inl z), q4, q5⟩
  · intro j k ds1 es a n e1 e2 s1 s2
    have other : ∀ (k : Nat) es, i ≠ k → ρ[k]? = some (some (.own es)) →
        σ[k]? ≠ some (some (.ref p)) := by
      intro k es hk e s
      obtain ⟨v, e1, a, ys, rfl, q1, q2, q3, q4, q5⟩ := h.sl k _ e
      rw [e1] at s
      cases s
      exact q3 (.inr rfl)
    by_cases hj : i = j
    · subst hj
      have hk : i ≠ k := n
      rw [List.getElem?_set_ne hk] at e2 s2
      obtain ⟨hi, _⟩ := at_i e1
      rw [List.getElem?_set_self (by rw [h.len]; exact hi)] at s1
      cases s1
      exact other k es hk e2 s2
    · rw [List.getElem?_set_ne hj] at e1 s1
      by_cases hk : i = k
      · subst hk
        obtain ⟨hi, _⟩ := at_i e2
        rw [List.getElem?_set_self (by rw [h.len]; exact hi)] at s2
        cases s2
        exact other j ds1 hj e1 s1
      · rw [List.getElem?_set_ne hk] at e2 s2
        exact h.dis j k ds1 es a n e1 e2 s1 s2
/-- x = [] that will grow -/
theorem s_own0 {i : Nat} (q : Nx m (ρ.set i (some (.own [])))) :
    SvC K l (tAsg (tLst tNil) (gName i)) ρ m Nx Rt := by
  intro Z B H σ W ok k _
  refine ⟨Nat.zero_le _, fun p hp => ?_⟩
  have hz : ¬ Z p := fun z => (ok.zs p z).1 hp
  refine k _ _ m B _ ((ok.aside (o := .lst []) hp).setOwn hz upd_same .nil)
    ⟨Same.refl B, fun z hz' => upd_ne fun e => hz (e ▸ hz')⟩ q
/-- x = a + b of two lists, that will grow -/
theorem s_catOwn {i : Nat} (h : EvC K l ta ρ m fun m1 x => EvC K l te ρ m1
      fun m2 y => ∃ xs ys, x = .lst xs ∧ y = .lst ys ∧
        xs.length + ys.length ≤ 100000 ∧
        Nx m2 (ρ.set i (some (.own (xs ++ ys))))) :
    SvC K l (tAsg (tOp rCat ta te) (gName i)) ρ m Nx Rt := by
  intro Z B H σ W ok k _
  refine h Z B H σ _ ok fun v1 d1 m1 B1 H1 o1 f1 i1 g1 => ?_
  refine g1 Z B1 H1 σ _ o1 fun v2 d2 m2 B2 H2 o2 f2 i2 g2 => ?_
  obtain ⟨xs, ys, rfl, rfl, hl, q⟩ := g2
  have i1' := i1.mono f2.sub
  cases i1' with
  | @lst a vs _ ha isa =>
    cases i2 with
    | @lst b ws _ hb isb =>
      refine ⟨a, b, vs, ws, rfl, rfl, o2.sub _ _ ha, o2.sub _ _ hb, ?_,
        fun p hp => ?_⟩
      · rw [isa.length, isb.length]
        exact Nat.le_trans hl (by decide)
      · have hz : ¬ Z p := fun z => (o2.zs p z).1 hp
        refine k _ _ m2 B2 _ ((o2.aside (o := .lst (vs ++ ws)) hp).setOwn
          hz upd_same (isa.append isb)) ((f1.trans f2).trans
          ⟨Same.refl B2, fun z hz' => upd_ne fun e => hz (e ▸ hz')⟩) q
/-- an own list is written -/
theorem Ok.grow {i : Nat} {ds es : List D} {a : Addr} {xs : List V}
    (h : Ok K l Z m B H σ ρ) (hi : ρ[i]? = some (some (.own ds)))
    (hs : σ[i]? = some (some (.ref a))) (is : IsAll K B xs es) :
    Ok K l Z m B (upd H a (.lst xs)) σ (ρ.set i (some (.own es))) ∧
      Fr Z B H B (upd H a (.lst xs)) := by
  obtain ⟨v, e1, b, ys, rfl, q1, q2, q3, q4, q5⟩ := h.sl i _ hi
  rw [hs] at e1
  cases e1
  have hiL : i < ρ.length := (List.getElem?_eq_some_iff.mp hi).1
  refine ⟨⟨⟨fun b x e => ?_, fun b e => ⟨?_, (h.hand b e).2⟩, ?_⟩, ?_, ?_, ?_⟩,
    ⟨Same.refl B, fun z hz => upd_ne fun e => q3 (e ▸ hz)⟩⟩
  · rw [upd_ne (fun (z : b = a) => by subst z; rw [q2] at e; cases e)]
    exact h.sub b x e
  · obtain ⟨g, s, c, q, r⟩ := (h.hand b e).1
    refine ⟨g, s, c, ?_, r⟩
    rw [upd_ne (fun (z : b = a) => q4 (z ▸ e))]
    exact q
  · intro z hz
    obtain ⟨w1, w2, w3⟩ := h.zs z hz
    refine ⟨?_, w2, w3⟩
    rw [upd_ne (fun (e : z = a) => q3 (e ▸ hz))]
    exact w1
  · rw [List.length_set]
    exact h.len
  · intro j s e
    by_cases hj : i = j
    · subst hj
      rw [List.getElem?_set_self hiL] at e
      cases e
      exact ⟨.ref a, hs, a, xs, rfl, upd_same, q2, q3, q4, is⟩
    · rw [List.getElem?_set_ne hj] at e
      obtain ⟨v, e1, q⟩ := h.sl j s e
      refine ⟨v, e1, ?_⟩
      cases s with
      | dat d => exact q
      | hand => exact q
      | own fs =>
        obtain ⟨b, zs, rfl, p1, p2, p3, p4, p5⟩ := q
        refine ⟨b, zs, rfl, ?_, p2, p3, p4, p5⟩
        rw [upd_ne (fun (z : b = a) => by
          subst z
          exact h.dis i j ds fs b hj hi e hs e1)]
        exact p1
  · intro j k ds1 es1 b n e1 e2
    have back : ∀ (j : Nat) ds1, (ρ.set i (some (.own es)))[j]? =
        some (some (.own ds1)) → ∃ ds2, ρ[j]? = some (some (.own ds2)) := by
      intro j ds1 e
      by_cases hj : i = j
      · subst hj; exact ⟨ds, hi⟩
      · rw [List.getElem?_set_ne hj] at e; exact ⟨ds1, e⟩
    obtain ⟨ds2, e1'⟩ := back j ds1 e1
    obtain ⟨es2, e2'⟩ := back k es1 e2
    exact h.dis j k ds2 es2 b n e1' e2'
theorem s_app {i : Nat} {ds : List D} (hi : ρ[i]? = some (some (.own ds)))
    (hl : ds.length < 100000)
    (h : EvC K l te ρ m fun m1 d =>
      Nx m1 (ρ.set i (some (.own (ds ++ [d]))))) :
    SvC K l (tDrop (tBM K "list" rAppend (tVar i) (tCons te tNil))) ρ m
      Nx Rt := by
  intro Z B H σ W ok k _
  obtain ⟨v, e1, a, xs, rfl, q1, q2, q3, q4, q5⟩ := ok.sl i _ hi
  refine ⟨_, e1, .inl ⟨rfl, _, SqL.of q1⟩, ?_⟩
  refine h Z B H σ _ ok fun v d m1 B1 H1 o1 f1 i1 g1 => ?_
  obtain ⟨v', e1', a', xs', hv, w1, w2, w3, w4, w5⟩ := o1.sl i _ hi
  subst hv
  rw [e1] at e1'
  cases e1'
  refine ⟨a, xs', v, rfl, rfl, w1, ?_, ?_⟩
  · rw [w5.length]
    exact Nat.lt_of_lt_of_le hl (by decide)
  · obtain ⟨o2, f2⟩ := o1.grow hi e1 (w5.append (.cons i1 .nil))
    exact k _ _ m1 B1 _ o2 (f1.trans f2) g1
theorem s_ext {i : Nat} {ds : List D} (hi : ρ[i]? = some (some (.own ds)))
    (h : EvC K l te ρ m fun m1 x => ∃ es, x = .lst es ∧
      ds.length + es.length ≤ 100000 ∧
      Nx m1 (ρ.set i (some (.own (ds ++ es))))) :
    SvC K l (tDrop (tBM K "list" rExtend (tVar i) (tCons te tNil))) ρ m
      Nx Rt := by
  intro Z B H σ W ok k _
  obtain ⟨v, e1, a, xs, rfl, q1, q2, q3, q4, q5⟩ := ok.sl i _ hi
  refine ⟨_, e1, .inl ⟨rfl, _, SqL.of q1⟩, ?_⟩
  refine h Z B H σ _ ok fun v d m1 B1 H1 o1 f1 i1 g1 => ?_
  obtain ⟨es, rfl, hl, g1⟩ := g1
  obtain ⟨v', e1', a', xs', hv, w1, w2, w3, w4, w5⟩ := o1.sl i _ hi
  subst hv
  rw [e1] at e1'
  cases e1'
  cases i1 with
  | @lst b zs _ hb isb =>
    refine ⟨a, b, xs', zs, rfl, rfl, w1, o1.sub _ _ hb, ?_, ?_⟩
    · rw [w5.length, isb.length]
      exact Nat.le_trans hl (by decide)
    · obtain ⟨o2, f2⟩ := o1.grow hi e1 (w5.append isb)
      exact k _ _ m1 B1 _ o2 (f1.trans f2) g1
/-- an own list is data from here on -/
theorem s_freeze {i : Nat} {ds : List D}
    (hi : ρ[i]? = some (some (.own ds)))
    (h : SvC K l ts (ρ.set i (some (.dat (.lst ds)))) m Nx Rt) :
    SvC K l ts ρ m Nx Rt := by
  intro Z B H σ W ok k j
  obtain ⟨v, e1, a, xs, rfl, q1, q2, q3, q4, q5⟩ := ok.sl i _ hi
  have sm : Same B (upd B a (.lst xs)) := same_new q2
  have hiL : i < ρ.length := (List.getElem?_eq_some_iff.mp hi).1
  have ok2 : Ok K l Z m (upd B a (.lst xs)) H σ
      (ρ.set i (some (.dat (.lst ds)))) := by
    refine ⟨⟨fun b x e => ?_, fun b e => ⟨(ok.hand b e).1, ?_⟩, ?_⟩, ?_, ?_, ?_⟩
    · by_cases n : b = a
      · subst n; rw [upd_same] at e; cases e; exact q1
      · rw [upd_ne n] at e; exact ok.sub b x e
    · rw [upd_ne (fun (z : b = a) => q4 (z ▸ e))]
      exact (ok.hand b e).2
    · intro z hz
      obtain ⟨w1, w2, w3⟩ := ok.zs z hz
      refine ⟨w1, ?_, w3⟩
      rw [upd_ne (fun (e : z = a) => q3 (e ▸ hz))]
      exact w2
    · rw [List.length_set]
      exact ok.len
    · intro j s e
      by_cases hj : i = j
      · subst hj
        rw [List.getElem?_set_self hiL] at e
        cases e
        exact ⟨_, e1, .lst upd_same (q5.mono sm)⟩
      · rw [List.getElem?_set_ne hj] at e
        obtain ⟨v, e2, q⟩ := ok.sl j s e
        refine ⟨v, e2, ?_⟩
        cases s with
        | dat d => exact Is.mono sm q
        | hand => exact q
        | own fs =>
          obtain ⟨b, zs, rfl, p1, p2, p3, p4, p5⟩ := q
          refine ⟨b, zs, rfl, p1, ?_, p3, p4, p5.mono sm⟩
          rw [upd_ne (fun (z : b = a) => by
            subst z
            exact ok.dis i j ds fs b hj hi e e1 e2)]
          exact p2
    · intro j k ds1 es b n e1' e2'
      have ne : ∀ (j : Nat) ds1, (ρ.set i (some (.dat (.lst ds))))[j]? =
          some (some (.own ds1)) → ρ[j]? = some (some (.own ds1)) := by
        intro j ds1 e
        by_cases hj : i = j
        · subst hj; rw [List.getElem?_set_self hiL] at e; cases e
        · rw [List.getElem?_set_ne hj] at e; exact e
      exact ok.dis j k ds1 es b n (ne _ _ e1') (ne _ _ e2')
  have f0 : Fr Z B H (upd B a (.lst xs)) H := ⟨sm, fun _ _ => rfl⟩
  exact h Z _ H σ W ok2
    (fun σ2 ρ2 m2 B2 H2 o2 f2 g2 => k σ2 ρ2 m2 B2 H2 o2 (f0.trans f2) g2)
    fun v d m2 B2 H2 o2 f2 i2 g2 => j v d m2 B2 H2 o2 (f0.trans f2) i2 g2
end
end Wt

/-! Built-ins over data. -/
namespace Wt
open PySem PySem.Spec PyProof.Rows L2
/-! ### data as plain data -/
mutual
def D.py : D → PyData
  | .non => .none
  | .bl b => .bool b
  | .int i => .int i
  | .str x => .str x
  | .lst xs => .list (D.pys xs)
  | .tup xs => .tuple (D.pys xs)
  | .dic kis => .dict (kis.map fun p => (.int p.1, .int p.2))
  | .ins _ _ _ => .none
  | .scr _ => .none
def D.pys : List D → List PyData
  | [] => []
  | x :: xs => D.py x :: D.pys xs
end
mutual
/-- no instance, no script within -/
def D.plain : D → Bool
  | .lst xs => D.plains xs
  | .tup xs => D.plains xs
  | .ins _ _ _ => false
  | .scr _ => false
  | _ => true
def D.plains : List D → Bool
  | [] => true
  | x :: xs => D.plain x && D.plains xs
end
mutual
def D.noLst : D → Bool
  | .lst _ => false
  | .tup xs => D.noLsts xs
  | _ => true
def D.noLsts : List D → Bool
  | [] => true
  | x :: xs => D.noLst x && D.noLsts xs
end
section
variable {X : Cx} {pins : List (Addr × Obj)} {σ : L2.St} {H B : Hp}
variable {s : Shared}
theorem kv_reads {w : World} {P : Program} (h : Heap) :
    ∀ {kis : List (Int × Int)} {vs : List (Key × Value)} {es : List DictEntry},
    KV (kis.map fun p => ((Sum.inl p.1 : Key), V.int p.2)) vs →
    Pairs (mixKind P w) es vs →
    ReadsAll h (es.map (·.key)) ((kis.map fun p =>
      (PyData.int p.1, PyData.int p.2)).map (·.1)) [] ∧
    ReadsAll h (es.map (·.val)) ((kis.map fun p =>
      (PyData.int p.1, PyData.int p.2)).map (·.2)) []
  | [], _, _, k, p => by
    cases k
    cases p
    exact ⟨.nil, .nil⟩
  | (i, j) :: kis, _, _, k, p => by
    cases k with
    | @cons a b as bs hab r =>
      cases p with
      | @cons e kv es' kvs h1 h2 pr =>
        obtain ⟨q1, q2⟩ := kv_reads (w := w) (P := P) h r pr
        obtain ⟨e1, t, e2⟩ := hab
        have h1' : keyIs b.1 e.key = true := h1
        rw [← e1] at h1'
        rcases keyIs_shape h1' with ⟨i', t', ei, ek⟩ | ⟨x, t', ei, _⟩
        · cases ei
          refine ⟨?_, ?_⟩
          · show ReadsAll h (e.key :: _) (PyData.int i :: _) ([] ++ [])
            rw [ek]
            exact .cons (.int _ _) q1
          · show ReadsAll h (e.val :: _) (PyData.int j :: _) ([] ++ [])
            rw [h2, e2]
            exact .cons (.int _ _) q2
        · cases ei
mutual
theorem Is.reads (I : Inv X pins σ H s) (sb : Same B H) :
    ∀ {v : V} {d : D} {u : Value}, Is X.K B v d → d.plain = true →
      RelV v u → ∃ as, Reads s.heap u d.py as ∧
        (d.noLst = true → sysModules ∉ as)
  | _, _, _, .non, _, r => by
    cases r
    exact ⟨_, .none, fun _ => nofun⟩
  | _, _, _, .bl b, _, r => by
    cases r
    exact ⟨_, .bool b, fun _ => nofun⟩
  | _, _, _, .int i, _, r => by
    obtain ⟨t, rfl⟩ := r
    exact ⟨_, .int i t, fun _ => nofun⟩
  | _, _, _, .str x, _, r => by
    obtain ⟨t, rfl⟩ := r
    exact ⟨_, .str x t, fun _ => nofun⟩
  | _, _, _, .lst h is, p, r => by
    cases r
    obtain ⟨its, rv, ⟨o, n, ho, hc, _, hd⟩, _⟩ := I.list (SqL.of (sb _ _ h))
    obtain ⟨as, hr, _⟩ := IsAll.reads I sb is (by simpa [D.plain] using p) rv
    exact ⟨_, .list ho hc hd hr, fun z => by simp [D.noLst] at z⟩
  | _, _, _, .tup h is _, p, r => by
    cases r
    obtain ⟨its, rv, ⟨o, ho, hc, n, hd⟩, _⟩ := I.tuple (sameT sb h)
    obtain ⟨as, hr, hn⟩ := IsAll.reads I sb is (by simpa [D.plain] using p) rv
    exact ⟨_, .tuple ho hc hd hr, fun z => hn (by simpa [D.noLst] using z)⟩
  | _, _, _, .dic h, _, r => by
    cases r
    obtain ⟨_, hs, vs, kv, o, es, ep, ho, hx, hd, _, pr, _⟩ := I.hok _ _ (sb _ _ h)
    obtain ⟨q1, q2⟩ := kv_reads (P := X.prog) (w := X.w) s.heap kv pr
    refine ⟨_, .dict ho hx.1 hd q1 q2, fun _ hm => ?_⟩
    rw [List.append_nil, List.mem_singleton] at hm
    rw [← hm] at hs
    simp at hs
  | _, _, _, .ins _ _, p, _ => by simp [D.plain] at p
  | _, _, _, .scr _, p, _ => by simp [D.plain] at p
theorem IsAll.reads (I : Inv X pins σ H s) (sb : Same B H) :
    ∀ {vs : List V} {ds : List D} {us : List Value}, IsAll X.K B vs ds →
      D.plains ds = true → Vals vs us → ∃ as, ReadsAll s.heap us (D.pys ds) as ∧
        (D.noLsts ds = true → sysModules ∉ as)
  | _, _, _, .nil, _, r => by
    cases r
    exact ⟨_, .nil, fun _ => nofun⟩
  | _, _, _, .cons h is, p, r => by
    cases r with
    | cons r1 r2 =>
      rw [D.plains, Bool.and_eq_true] at p
      obtain ⟨as, q1, n1⟩ := Is.reads I sb h p.1 r1
      obtain ⟨bs, q2, n2⟩ := IsAll.reads I sb is p.2 r2
      refine ⟨_, .cons q1 q2, fun z => ?_⟩
      rw [D.noLsts, Bool.and_eq_true] at z
      intro hm
      rcases List.mem_append.mp hm with hm | hm
      · exact n1 z.1 hm
      · exact n2 z.2 hm
end
end
section
variable {P : Program} {w : World} {h : Heap}
/-- a value whose text repr tells -/
def Told (P : Program) (w : World) (h : Heap) (u : Value) (d : PyData) : Prop :=
  ∃ bs, ReadAtMost h d.depth bs ∧ ReprK P w bs h d.depth u d.shown
def ToldAll (P : Program) (w : World) (h : Heap) (us : List Value) (ds : List PyData) : Prop :=
  ∃ bs, ReadAtMost h (PyData.depthAll ds) bs ∧
    ReprAllK P w bs h (PyData.depthAll ds) us (PyData.shownAll ds)
theorem told_plain {u : Value} {d : PyData} {as : List Addr} (r : Reads h u d as)
    (ab : d.showable = true) (no : sysModules ∉ as) (sm : d.shown.length ≤ sizeLine) :
    Told P w h u d := ReprK.of_reads r ab (fun _ => no) sm
theorem ToldAll.add {u : Value} {us : List Value} {d : PyData} {ds : List PyData}
    (x : Told P w h u d) (y : ToldAll P w h us ds) : ToldAll P w h (u :: us) (d :: ds) := by
  obtain ⟨b1, h1, k1⟩ := x
  obtain ⟨b2, h2, k2⟩ := y
  have l1 : d.depth ≤ PyData.depthAll (d :: ds) := by
    rw [PyData.depthAll]; exact Nat.le_max_left _ _
  have l2 : PyData.depthAll ds ≤ PyData.depthAll (d :: ds) := by
    rw [PyData.depthAll]; exact Nat.le_max_right _ _
  refine ⟨b1 ++ b2, (h1.mono l1).append (h2.mono l2), ?_⟩
  rw [PyData.shownAll]
  exact .cons ((k1.more fun b => List.mem_append_left b2).level_le l1)
    (k2.more_le (fun b => List.mem_append_right b1) l2)
/-- the same of a list's or a tuple's items, with what its own repr needs -/
structure Within (P : Program) (w : World) (h : Heap) (a : Addr) (us : List Value)
    (ds : List PyData) (bs : List Addr) : Prop where
  most : ReadAtMost h (PyData.depthAll ds) bs
  all : ReprAllK P w bs h (PyData.depthAll ds) us (PyData.shownAll ds)
  out : a ∉ bs
theorem ToldAll.within {a : Addr} {us : List Value} {ds : List PyData} {d : PyData}
    {as : List Addr} (y : ToldAll P w h us ds) (r : Reads h (.ref a) d as)
    (hd : d.depth = PyData.depthAll ds + 1) : ∃ bs, Within P w h a us ds bs := by
  obtain ⟨bs, h1, k1⟩ := y
  exact ⟨bs, h1, k1, not_mem_of_deeper r (by omega) h1⟩
end
section
variable {X : Cx} {pins : List (Addr × Obj)} {σ : L2.St} {H B : Hp}
variable {s : Shared}
mutual
theorem Is.told (I : Inv X pins σ H s) (sb : Same B H) :
    ∀ {v : V} {d : D} {u : Value}, Is X.K B v d → d.plain = true → RelV v u →
      d.py.showable = true → d.py.shown.length ≤ sizeLine →
      Told X.prog X.w s.heap u d.py
  | _, _, _, .non, _, r, ab, sm => by
    cases r
    exact told_plain .none ab nofun sm
  | _, _, _, .bl b, _, r, ab, sm => by
    cases r
    exact told_plain (.bool b) ab nofun sm
  | _, _, _, .int i, _, r, ab, sm => by
    obtain ⟨t, rfl⟩ := r
    exact told_plain (.int i t) ab nofun sm
  | _, _, _, .str x, _, r, ab, sm => by
    obtain ⟨t, rfl⟩ := r
    exact told_plain (.str x t) ab nofun sm
  | _, _, _, .lst (ds := ds) hB is, p, r, ab, sm => by
    have rd := Is.reads I sb (.lst hB is) p r
    cases r
    obtain ⟨as, rd, _⟩ := rd
    obtain ⟨its, rv, ⟨o, n, ho, hc, _, hd⟩, _⟩ := I.list (SqL.of (sb _ _ hB))
    have sm : (listText (PyData.shownAll (D.pys ds))).length ≤ sizeLine := by
      rw [D.py, PyData.shown] at sm; exact sm
    obtain ⟨bs, W⟩ := (IsAll.told I sb is (by simpa [D.plain] using p) rv
      (by rw [D.py, PyData.showable] at ab; exact ab)
      fun t ht => Nat.le_trans (listText_mem_le ht) sm).within rd (by rw [D.py, PyData.depth])
    refine ⟨_, ReadAtMost.cons rd (by rw [D.py, PyData.depth]; omega) W.most, ?_⟩
    rw [D.py, PyData.depth, PyData.shown]
    cases its with
    | cons x q =>
      exact .list ho hc hd W.out (by simpa using W.all.length_eq)
        fun i y e => W.all.item i y (by simpa using e)
    | nil =>
      cases rv
      cases is
      exact .listEmpty ho hc hd
  | _, _, _, .tup (ds := ds) hB is c, p, r, ab, sm => by
    have rd := Is.reads I sb (.tup hB is c) p r
    cases r
    obtain ⟨as, rd, _⟩ := rd
    obtain ⟨its, rv, ⟨o, ho, hc, n, hd⟩, _⟩ := I.tuple (sameT sb hB)
    have sm : (tupleText (PyData.shownAll (D.pys ds))).length ≤ sizeLine := by
      rw [D.py, PyData.shown] at sm; exact sm
    obtain ⟨bs, W⟩ := (IsAll.told I sb is (by simpa [D.plain] using p) rv
      (by rw [D.py, PyData.showable] at ab; exact ab)
      fun t ht => Nat.le_trans (tupleText_mem_le ht) sm).within rd (by rw [D.py, PyData.depth])
    refine ⟨_, ReadAtMost.cons rd (by rw [D.py, PyData.depth]; omega) W.most, ?_⟩
    rw [D.py, PyData.depth, PyData.shown]
    exact .tuple ho hc hd W.out W.all
  | _, _, _, .dic hB, p, r, ab, sm => by
    obtain ⟨as, rd, no⟩ := Is.reads I sb (.dic hB) p r
    exact told_plain rd ab (no rfl) sm
  | _, _, _, .ins _ _, p, _, _, _ => by simp [D.plain] at p
  | _, _, _, .scr _, p, _, _, _ => by simp [D.plain] at p
theorem IsAll.told (I : Inv X pins σ H s) (sb : Same B H) :
    ∀ {vs : List V} {ds : List D} {us : List Value}, IsAll X.K B vs ds →
      D.plains ds = true → Vals vs us → PyData.showableAll (D.pys ds) = true →
      (∀ t ∈ PyData.shownAll (D.pys ds), t.length ≤ sizeLine) →
      ToldAll X.prog X.w s.heap us (D.pys ds)
  | _, _, _, .nil, _, r, _, _ => by
    cases r
    exact ⟨[], nofun, .nil⟩
  | _, _, _, .cons h is, p, r, ab, sm => by
    cases r with
    | cons r1 r2 =>
      rw [D.plains, Bool.and_eq_true] at p
      rw [D.pys, PyData.showableAll, Bool.and_eq_true] at ab
      rw [D.pys, PyData.shownAll] at sm
      exact ToldAll.add (Is.told I sb h p.1 r1 ab.1 (sm _ List.mem_cons_self))
        (IsAll.told I sb is p.2 r2 ab.2 fun t ht => sm t (List.mem_cons_of_mem _ ht))
end
end
/-- what can be shown -/
structure Shows (d : D) : Prop where
  plain : d.plain = true
  able : d.py.showable = true
  deep : d.py.depth ≤ 100
  small : d.py.shown.length ≤ sizeLine
def rRepr (K : PySem.W.Frag) : List V → Hp → VK → Prop := fun vs H Q =>
  ∃ v d B, vs = [v] ∧ Same B H ∧ Is K B v d ∧ Shows d ∧
    Q (.str d.py.shown) H
theorem call_reprD {X : Cx} {k : Nat} (hG : X.A.guards = some [])
    (hr : Room k X.A) : CallR X (.builtin "repr") (rRepr X.K) := by
  intro pins s σ H xs us Q I r h
  obtain ⟨v, d, B, rfl, sb, is, sh, q⟩ := h
  obtain ⟨u, rfl, ru⟩ := vals1 r
  have hun : X.A.units + 200 < cLine := by have := hr.un; omega
  have fin : ∀ h' t tk, (∀ b o, s.heap.get? b = some o → h'.get? b = some o) →
      EP X pins σ Q (.str d.py.shown t) { s with heap := h', toks := tk } :=
    fun h' t tk hk => ⟨.str d.py.shown, H, I.kept hk, ⟨t, rfl⟩, q⟩
  cases is with
  | non =>
    cases ru
    exact PySem.P.repr_of_none ⟨.str _, H, I.tok _, ⟨_, rfl⟩, q⟩
  | bl b =>
    cases ru
    exact PySem.P.repr_of_bool ⟨.str _, H, I.tok _, ⟨_, rfl⟩, q⟩
  | int i =>
    obtain ⟨t, rfl⟩ := ru
    have e : i.natAbs.log2 < 1920 := by
      have := sh.able
      simpa [D.py, PyData.showable] using this
    exact PySem.P.repr_of_int e ⟨.str _, H, I.tok _, ⟨_, rfl⟩, q⟩
  | str x =>
    obtain ⟨t, rfl⟩ := ru
    exact PySem.P.repr_of_str ⟨.str _, H, I.tok _, ⟨_, rfl⟩, q⟩ sh.small
  | @lst a ys ds h is =>
    cases ru
    obtain ⟨as, rd, _⟩ := Is.reads I sb (.lst h is) sh.plain rfl
    obtain ⟨its, rv, ⟨o, n, ho, hc, _, hd⟩, _⟩ := I.list (SqL.of (sb _ _ h))
    have sm : (listText (PyData.shownAll (D.pys ds))).length ≤ sizeLine := by
      have := sh.small
      rw [D.py, PyData.shown] at this; exact this
    obtain ⟨bs, W⟩ := (IsAll.told I sb is (by simpa [D.plain] using sh.plain) rv
      (by have := sh.able; rw [D.py, PyData.showable] at this; exact this)
      fun t ht => Nat.le_trans (listText_mem_le ht) sm).within rd (by rw [D.py, PyData.depth])
    have dp : PyData.depthAll (D.pys ds) + 1 ≤ 100 := by
      have := sh.deep
      rw [D.py, PyData.depth] at this; exact this
    refine call_repr_slot (by omega) ⟨o, ho, hc⟩ PySem.F.slot_list_repr.toG ?_
    have e : (D.lst ds).py.shown = listText (PyData.shownAll (D.pys ds)) := by
      rw [D.py, PyData.shown]
    cases its with
    | cons x q =>
      exact call_list_reprK ho hc hd W.out (by simpa using W.all.length_eq)
        (fun i y e => W.all.item i y (by simpa using e)) (A := X.A.in1) hG (fun b _ => Clear.nil b)
        (by show X.A.units + 1 + _ < cLine; omega) (fun _ _ e => e)
        (fun h' t tk hk => ⟨_, _, rfl, e ▸ fin h' t tk hk⟩) sm
    | nil =>
      cases rv
      cases is
      have := fin s.heap s.toks (s.toks + 1) fun _ _ e => e
      exact call_list_repr_empty ⟨o, ho, hc⟩ ho hd ⟨_, _, rfl, this⟩
  | @tup a ys ds h is hcl =>
    cases ru
    obtain ⟨as, rd, _⟩ := Is.reads I sb (.tup h is hcl) sh.plain rfl
    obtain ⟨its, rv, ⟨o, ho, hc, n, hd⟩, _⟩ := I.tuple (sameT sb h)
    have sm : (tupleText (PyData.shownAll (D.pys ds))).length ≤ sizeLine := by
      have := sh.small
      rw [D.py, PyData.shown] at this; exact this
    obtain ⟨bs, W⟩ := (IsAll.told I sb is (by simpa [D.plain] using sh.plain) rv
      (by have := sh.able; rw [D.py, PyData.showable] at this; exact this)
      fun t ht => Nat.le_trans (tupleText_mem_le ht) sm).within rd (by rw [D.py, PyData.depth])
    have dp : PyData.depthAll (D.pys ds) + 1 ≤ 100 := by
      have := sh.deep
      rw [D.py, PyData.depth] at this; exact this
    have e : (D.tup ds).py.shown = tupleText (PyData.shownAll (D.pys ds)) := by
      rw [D.py, PyData.shown]
    refine call_repr_slot (by omega) ⟨o, ho, hc⟩ PySem.F.slot_tuple_repr ?_
    exact call_tuple_reprK ho hc hd W.out W.all (A := X.A.in1) hG (fun b _ => Clear.nil b)
      (by show X.A.units + 1 + _ < cLine; omega) (fun _ _ e => e)
      (fun h' t tk hk => ⟨_, _, rfl, e ▸ fin h' t tk hk⟩) sm
  | @dic a kis h =>
    cases ru
    obtain ⟨as, rd, nl⟩ := Is.reads I sb (.dic h) sh.plain rfl
    exact repr_of_reads' rd sh.able (fun _ => nl rfl) hG
      (by have := sh.deep; omega) (fun _ _ e => e)
      (fun h' t tk hk => fin h' t tk hk) sh.small
  | ins h is => have := sh.plain; simp [D.plain] at this
  | scr h => have := sh.plain; simp [D.plain] at this
/-! ### kinds -/
def D.isInt : D → Bool
  | .int _ => true
  | .bl _ => true
  | _ => false
def D.isBool : D → Bool
  | .bl _ => true
  | _ => false
def D.isTup : D → Bool
  | .tup _ => true
  | _ => false
def D.kind : D → String
  | .non => "NoneType"
  | .bl _ => "bool"
  | .int _ => "int"
  | .str _ => "str"
  | .lst _ => "list"
  | .tup _ => "tuple"
  | .dic _ => "dict"
  | .ins _ _ _ => "object"
  | .scr _ => "list"
def D.own : D → Bool
  | .ins _ _ _ => true
  | _ => false
section
variable {K : PySem.W.Frag} {l : Option Addr} {ρ : Ro} {m : Nat}
variable {Φ : Nat → D → Prop} {Θ : Nat → Bool → Prop}
variable {ta te tl : TE} {t u : TT} {tA tK : TA}
variable {Z : Addr → Prop} {B H : Hp} {σ : L2.St}
theorem Is.ty {v : V} {d : D} (sb : Same B H) (h : Is K B v d)
    (n : d.own = false) : TyX K H v (.type d.kind) := by
  cases h with
  | non => exact .base .non
  | bl b => exact .base (.bl b)
  | int i => exact .base (.int i)
  | str x => exact .base (.str x)
  | lst h _ => exact .base (.lst (sb _ _ h))
  | tup h _ =>
    rcases h with (h | ⟨o, h⟩) | ⟨o, its, n, hk, hc, _⟩
    · exact .base (.tup (sb _ _ h))
    · exact .fTuple (sb _ _ h)
    · exact .kTuple hk hc
  | dic h => exact .base (.dK (sb _ _ h))
  | ins _ _ => cases n
  | scr h =>
    rcases h with ⟨o, h⟩ | ⟨o, its, n, hk, hc, _⟩
    · exact .base (.frz (sb _ _ h))
    · exact .kList hk hc
theorem e_isi {T : String} {g : D → Bool}
    (hg : ∀ d, d.own = false → kitB d.kind T = some (g d))
    (h : EvC K l ta ρ m fun m1 d => d.own = false ∧ Φ m1 (.bl (g d))) :
    EvC K l (tCB (rIsi K) (tCons ta (tCons (tC (.ty T)) tNil))) ρ m Φ := by
  intro Z B H σ Q ok k
  refine h Z B H σ _ ok fun v d m1 B1 H1 o1 f1 i1 g1 => ?_
  exact ⟨v, .ty T, _, _, g d, rfl, .ty T, i1.ty o1.sub g1.1,
    kit_ty (hg d g1.1), k _ _ m1 B1 H1 o1 f1 (.bl _) g1.2⟩
theorem kit_int (d : D) (h : d.own = false) :
    kitB d.kind "int" = some d.isInt := by
  cases d <;> first | (cases h; done) | (simp only [D.kind, D.isInt]; decide +kernel)
theorem kit_bool (d : D) (h : d.own = false) :
    kitB d.kind "bool" = some d.isBool := by
  cases d <;> first | (cases h; done) | (simp only [D.kind, D.isBool]; decide +kernel)
theorem kit_tup (d : D) (h : d.own = false) :
    kitB d.kind "tuple" = some d.isTup := by
  cases d <;> first | (cases h; done) | (simp only [D.kind, D.isTup]; decide +kernel)
/-! ### values: one argument -/
abbrev rLenQ (K : PySem.W.Frag) : List V → Hp → VK → Prop := fun xs H Q =>
  ∃ p ys, xs = [.ref p] ∧ (SqL K H p ys ∨ SqT K H p ys) ∧
    Q (.int ys.length) H
abbrev rListQ (K : PySem.W.Frag) : List V → Hp → VK → Prop := fun xs H Q =>
  ∃ p ys, xs = [.ref p] ∧ (SqL K H p ys ∨ SqT K H p ys) ∧
    ∀ l, H l = none → Q (.ref l) (upd H l (.lst ys))
theorem isAll1 {vs : List V} {d : D} (h : IsAll K B vs [d]) :
    ∃ v, vs = [v] ∧ Is K B v d := by
  cases h with
  | cons h r => cases r; exact ⟨_, rfl, h⟩
theorem isAll2 {vs : List V} {d e : D} (h : IsAll K B vs [d, e]) :
    ∃ v w, vs = [v, w] ∧ Is K B v d ∧ Is K B w e := by
  cases h with
  | cons h r =>
    cases r with
    | cons h2 r => cases r; exact ⟨_, _, rfl, h, h2⟩
theorem v_repr {d : D} (s : Shows d) (q : Φ m (.str d.py.shown)) :
    VvC K l ρ (rRepr K) [d] m Φ := by
  intro Z B H σ vs Q ok is k
  obtain ⟨v, rfl, h⟩ := isAll1 is
  exact ⟨v, d, B, rfl, ok.sub, h, s, k _ _ m B H ok Fr.refl (.str _) q⟩
theorem v_lenT {ds : List D} (q : Φ m (.int ds.length)) :
    VvC K l ρ (fun xs H Q => ∃ p ys, xs = [.ref p] ∧
      (SqL K H p ys ∨ SqT K H p ys) ∧ Q (.int ys.length) H)
      [.tup ds] m Φ := by
  intro Z B H σ vs Q ok is k
  obtain ⟨v, rfl, h⟩ := isAll1 is
  cases h with
  | tup h r =>
    refine ⟨_, _, rfl, .inr (sameT ok.sub h), ?_⟩
    rw [r.length]
    exact k _ _ m B H ok Fr.refl (.int _) q
theorem v_lenL {ds : List D} (q : Φ m (.int ds.length)) :
    VvC K l ρ (fun xs H Q => ∃ p ys, xs = [.ref p] ∧
      (SqL K H p ys ∨ SqT K H p ys) ∧ Q (.int ys.length) H)
      [.lst ds] m Φ := by
  intro Z B H σ vs Q ok is k
  obtain ⟨v, rfl, h⟩ := isAll1 is
  cases h with
  | lst h r =>
    refine ⟨_, _, rfl, .inl (SqL.of (ok.sub _ _ h)), ?_⟩
    rw [r.length]
    exact k _ _ m B H ok Fr.refl (.int _) q
theorem v_lenS {ns : List Int} (q : Φ m (.int ns.length)) :
    VvC K l ρ (fun xs H Q => ∃ p ys, xs = [.ref p] ∧
      (SqL K H p ys ∨ SqT K H p ys) ∧ Q (.int ys.length) H)
      [.scr ns] m Φ := by
  intro Z B H σ vs Q ok is k
  obtain ⟨v, rfl, h⟩ := isAll1 is
  cases h with
  | scr h =>
    refine ⟨_, _, rfl, .inl (h.seq ok.sub), ?_⟩
    rw [List.length_map]
    exact k _ _ m B H ok Fr.refl (.int _) q
theorem v_listT {ds : List D} (q : Φ m (.lst ds)) :
    VvC K l ρ (fun xs H Q => ∃ p ys, xs = [.ref p] ∧
      (SqL K H p ys ∨ SqT K H p ys) ∧
      ∀ l, H l = none → Q (.ref l) (upd H l (.lst ys))) [.tup ds] m Φ := by
  intro Z B H σ vs Q ok is k
  obtain ⟨v, rfl, h⟩ := isAll1 is
  cases h with
  | tup h r =>
    refine ⟨_, _, rfl, .inr (sameT ok.sub h), fun p hp => ?_⟩
    obtain ⟨o2, f2⟩ := ok.new (o := .lst _) hp
    exact k _ _ m _ _ o2 f2 (.lst upd_same (r.mono f2.sub)) q
theorem v_tupL {ds : List D} (q : Φ m (.tup ds)) :
    VvC K l ρ (rTupC K) [.lst ds] m Φ := by
  intro Z B H σ vs Q ok is k
  obtain ⟨v, rfl, h⟩ := isAll1 is
  cases h with
  | lst h r =>
    refine ⟨_, _, rfl, .inl ⟨SqL.of (ok.sub _ _ h), fun p ob hp hd _ => ?_⟩⟩
    obtain ⟨o2, f2⟩ := ok.new (o := .frz ob (.tup _)) hp
    exact k _ _ m _ _ o2 f2 (.newT upd_same hd (r.mono f2.sub)) q
theorem bls_of : ∀ {vs : List V} {bs : List Bool},
    IsAll K B vs (bs.map D.bl) → vs = bs.map V.bl
  | _, [], h => by cases h; rfl
  | _, b :: bs, h => by
    cases h with
    | cons h r => cases h; rw [bls_of r]; rfl
theorem v_all {bs : List Bool} (q : Φ m (.bl (bs.all id))) :
    VvC K l ρ (rAll K) [.lst (bs.map D.bl)] m Φ := by
  intro Z B H σ vs Q ok is k
  obtain ⟨v, rfl, h⟩ := isAll1 is
  cases h with
  | lst h r =>
    have e := bls_of r
    subst e
    exact ⟨_, bs, rfl, SqL.of (ok.sub _ _ h),
      k _ _ m B H ok Fr.refl (.bl _) q⟩
theorem v_strI {i : Int} (hi : i.natAbs.log2 < 1920)
    (q : Φ m (.str (toString i))) :
    VvC K l ρ (fun xs H Q => ∃ i, xs = [.int i] ∧ i.natAbs.log2 < 1920 ∧
      Q (.str (toString i)) H) [.int i] m Φ := by
  intro Z B H σ vs Q ok is k
  obtain ⟨v, rfl, h⟩ := isAll1 is
  cases h
  exact ⟨i, rfl, hi, k _ _ m B H ok Fr.refl (.str _) q⟩
theorem v_abs {i : Int} (q : Φ m (.int (if i < 0 then -i else i))) :
    VvC K l ρ (fun xs H Q => ∃ i, xs = [.int i] ∧
      Q (.int (if i < 0 then -i else i)) H) [.int i] m Φ := by
  intro Z B H σ vs Q ok is k
  obtain ⟨v, rfl, h⟩ := isAll1 is
  cases h
  exact ⟨i, rfl, k _ _ m B H ok Fr.refl (.int _) q⟩
theorem v_intB {b : Bool} (q : Φ m (.int (if b then 1 else 0))) :
    VvC K l ρ (fun xs H Q => (∃ i, xs = [.int i] ∧ Q (.int i) H) ∨
      ∃ k, xs = [.bl k] ∧ Q (.int (if k then 1 else 0)) H) [.bl b] m Φ := by
  intro Z B H σ vs Q ok is k
  obtain ⟨v, rfl, h⟩ := isAll1 is
  cases h
  exact .inr ⟨b, rfl, k _ _ m B H ok Fr.refl (.int _) q⟩
theorem v_max2 {i j : Int} (q : Φ m (.int (if j > i then j else i))) :
    VvC K l ρ (fun xs H Q => ∃ i j, xs = [.int i, .int j] ∧
      Q (.int (if j > i then j else i)) H) [.int i, .int j] m Φ := by
  intro Z B H σ vs Q ok is k
  obtain ⟨v, w, rfl, h, h2⟩ := isAll2 is
  cases h
  cases h2
  exact ⟨i, j, rfl, k _ _ m B H ok Fr.refl (.int _) q⟩
theorem v_min2 {i j : Int} (q : Φ m (.int (if j < i then j else i))) :
    VvC K l ρ (fun xs H Q => ∃ i j, xs = [.int i, .int j] ∧
      Q (.int (if j < i then j else i)) H) [.int i, .int j] m Φ := by
  intro Z B H σ vs Q ok is k
  obtain ⟨v, w, rfl, h, h2⟩ := isAll2 is
  cases h
  cases h2
  exact ⟨i, j, rfl, k _ _ m B H ok Fr.refl (.int _) q⟩
/-! ### subscripts, slices, +, in -/
theorem atI_get {α : Type} {xs : List α} {i : Int} {x : α}
    (h0 : 0 ≤ i) (h : xs[i.toNat]? = some x) : atI xs i = some x := by
  have hl : i.toNat < xs.length := (List.getElem?_eq_some_iff.mp h).1
  unfold atI ixN
  rw [if_pos h0, if_pos (by omega)]
  exact h
theorem v_ixT {ds : List D} {i : Int} {d : D} (h0 : 0 ≤ i)
    (hd : ds[i.toNat]? = some d) (q : Φ m d) :
    VvC K l ρ (fun vs H Q => ∃ x y, vs = [x, y] ∧ rIxT K x y H Q)
      [.tup ds, .int i] m Φ := by
  intro Z B H σ vs Q ok is k
  obtain ⟨v, w, rfl, h, h2⟩ := isAll2 is
  cases h2
  cases h with
  | tup h r =>
    obtain ⟨x, e, z⟩ := r.got hd
    exact ⟨_, _, rfl, _, _, i, x, rfl, rfl, sameT ok.sub h, atI_get h0 e,
      k _ _ m B H ok Fr.refl z q⟩
theorem v_ixL {ds : List D} {i : Int} {d : D} (h0 : 0 ≤ i)
    (hd : ds[i.toNat]? = some d) (q : Φ m d) :
    VvC K l ρ (fun vs H Q => ∃ x y, vs = [x, y] ∧ rIxL K x y H Q)
      [.lst ds, .int i] m Φ := by
  intro Z B H σ vs Q ok is k
  obtain ⟨v, w, rfl, h, h2⟩ := isAll2 is
  cases h2
  cases h with
  | lst h r =>
    obtain ⟨x, e, z⟩ := r.got hd
    exact ⟨_, _, rfl, _, _, i, x, rfl, rfl, SqL.of (ok.sub _ _ h),
      atI_get h0 e, k _ _ m B H ok Fr.refl z q⟩
theorem v_ixS {ns : List Int} {i n : Int} (h0 : 0 ≤ i)
    (hd : ns[i.toNat]? = some n) (q : Φ m (.int n)) :
    VvC K l ρ (fun vs H Q => ∃ x y, vs = [x, y] ∧ rIxL K x y H Q)
      [.scr ns, .int i] m Φ := by
  intro Z B H σ vs Q ok is k
  obtain ⟨v, w, rfl, h, h2⟩ := isAll2 is
  cases h2
  cases h with
  | scr h =>
    refine ⟨_, _, rfl, _, _, i, .int n, rfl, rfl, h.seq ok.sub,
      atI_get h0 ?_, k _ _ m B H ok Fr.refl (.int n) q⟩
    rw [List.getElem?_map, hd]
    rfl
theorem v_catT {xs ys : List D} (hl : xs.length + ys.length ≤ 100000)
    (q : Φ m (.tup (xs ++ ys))) :
    VvC K l ρ (fun vs H Q => ∃ x y, vs = [x, y] ∧ rCatC K x y H Q)
      [.tup xs, .tup ys] m Φ := by
  intro Z B H σ vs Q ok is k
  obtain ⟨v, w, rfl, h, h2⟩ := isAll2 is
  cases h with
  | @tup a us _ h r c1 =>
    cases h2 with
    | @tup b ws _ h2 r2 c2 =>
      refine ⟨_, _, rfl, _, _, us, ws, rfl, rfl, sameT ok.sub h,
        sameT ok.sub h2, ?_, fun e => ?_, fun n e => ?_,
        fun n1 n2 p ob hp hd _ => ?_⟩
      · rw [r.length, r2.length]
        exact Nat.le_trans hl (by decide)
      · subst e
        cases r
        exact k _ _ m B H ok Fr.refl (.tup h2 r2 c2) q
      · subst e
        cases r2
        rw [List.append_nil] at q
        exact k _ _ m B H ok Fr.refl (.tup h r c1) q
      · obtain ⟨o2, f2⟩ := ok.new (o := .frz ob (.tup (us ++ ws))) hp
        exact k _ _ m _ _ o2 f2 (.newT upd_same hd
          ((r.mono f2.sub).append (r2.mono f2.sub))) q
theorem v_catL {xs ys : List D} (hl : xs.length + ys.length ≤ 100000)
    (q : Φ m (.lst (xs ++ ys))) :
    VvC K l ρ (fun vs H Q => ∃ x y, vs = [x, y] ∧ rCat x y H Q)
      [.lst xs, .lst ys] m Φ := by
  intro Z B H σ vs Q ok is k
  obtain ⟨v, w, rfl, h, h2⟩ := isAll2 is
  cases h with
  | @lst a us _ h r =>
    cases h2 with
    | @lst b ws _ h2 r2 =>
      refine ⟨_, _, rfl, _, _, us, ws, rfl, rfl, ok.sub _ _ h,
        ok.sub _ _ h2, ?_, fun p hp => ?_⟩
      · rw [r.length, r2.length]
        exact Nat.le_trans hl (by decide)
      · obtain ⟨o2, f2⟩ := ok.new (o := .lst (us ++ ws)) hp
        exact k _ _ m _ _ o2 f2 (.lst upd_same
          ((r.mono f2.sub).append (r2.mono f2.sub))) q
def cutD (xs : List D) (lo hi : Option Int) : List D :=
  (xs.drop (HT.sIx xs.length 0 lo)).take
    (HT.sIx xs.length xs.length hi - HT.sIx xs.length 0 lo)
theorem IsAll.cut {vs : List V} {ds : List D} (h : IsAll K B vs ds)
    (lo hi : Option Int) : IsAll K B (cutV vs lo hi) (cutD ds lo hi) := by
  unfold cutV cutD
  rw [h.length]
  exact (h.drop _).take _
/-- a part of a slice -/
def OvC (K : PySem.W.Frag) (l : Option Addr) (to : TO) (ρ : Ro) (m : Nat)
    (Φ : Nat → Option Int → Prop) : Prop :=
  ∀ Z B H σ (Q : Option Int → Hp → Prop), Ok K l Z m B H σ ρ →
    (∀ o m' B2 H2, Ok K l Z m' B2 H2 σ ρ → Fr Z B H B2 H2 →
      Φ m' o → Q o H2) → to σ H Q
theorem o_none {Φ : Nat → Option Int → Prop} (q : Φ m none) :
    OvC K l tNoPart ρ m Φ :=
  fun Z B H σ Q ok k => k none m B H ok Fr.refl q
theorem o_some {Φ : Nat → Option Int → Prop}
    (h : EvC K l te ρ m fun m1 d => ∃ i, d = .int i ∧ Φ m1 (some i)) :
    OvC K l (tPart te) ρ m Φ := by
  intro Z B H σ Q ok k
  refine h Z B H σ _ ok fun v d m1 B1 H1 o1 f1 i1 g1 => ?_
  obtain ⟨i, rfl, g⟩ := g1
  cases i1
  exact ⟨i, rfl, k _ m1 B1 H1 o1 f1 g⟩
theorem e_slT {tl th : TO}
    (h : EvC K l te ρ m fun m1 x => OvC K l tl ρ m1 fun m2 lo =>
      OvC K l th ρ m2 fun m3 hi => ∃ ds, x = .tup ds ∧
        Φ m3 (.tup (cutD ds lo hi))) :
    EvC K l (tSl (rSlC K) te tl th) ρ m Φ := by
  intro Z B H σ Q ok k
  refine h Z B H σ _ ok fun v x m1 B1 H1 o1 f1 i1 g1 => ?_
  refine g1 Z B1 H1 σ _ o1 fun lo m2 B2 H2 o2 f2 g2 => ?_
  refine g2 Z B2 H2 σ _ o2 fun hi m3 B3 H3 o3 f3 g3 => ?_
  obtain ⟨ds, rfl, q⟩ := g3
  have i3 := i1.mono (f2.trans f3).sub
  have f13 := f1.trans (f2.trans f3)
  cases i3 with
  | @tup a us _ h r hcl =>
    refine ⟨a, us, rfl, sameT o3.sub h, fun e => ?_, fun _ p ob hp hd _ => ?_⟩
    · have w : cutD ds lo hi = ds := by
        rw [r.length] at e
        unfold cutD
        rw [e.1, e.2, List.drop_zero, Nat.sub_zero, List.take_length]
      rw [w] at q
      exact k _ _ m3 B3 H3 o3 f13 (.tup h r hcl) q
    · obtain ⟨o4, f4⟩ := o3.new (o := .frz ob (.tup (cutV us lo hi))) hp
      exact k _ _ m3 _ _ o4 (f13.trans f4) (.newT upd_same hd
        ((r.mono f4.sub).cut lo hi)) q
/-- x in t, flat things -/
def D.flat : D → Bool
  | .non => true
  | .bl _ => true
  | .int _ => true
  | .str _ => true
  | _ => false
def D.v : D → V
  | .bl b => .bl b
  | .int i => .int i
  | .str x => .str x
  | _ => .non
theorem Is.flat {v : V} {d : D} (h : Is K B v d) (f : d.flat = true) :
    v = d.v ∧ flatV v = true := by
  cases h <;> first | exact ⟨rfl, rfl⟩ | (simp [D.flat] at f)
theorem IsAll.flat : ∀ {vs : List V} {ds : List D}, IsAll K B vs ds →
    ds.all D.flat = true → vs = ds.map D.v ∧ vs.all flatV = true
  | _, _, .nil, _ => ⟨rfl, rfl⟩
  | _, _, .cons h r, f => by
    rw [List.all_cons, Bool.and_eq_true] at f
    obtain ⟨e1, q1⟩ := h.flat f.1
    obtain ⟨e2, q2⟩ := IsAll.flat r f.2
    refine ⟨?_, ?_⟩
    · rw [List.map_cons, ← e1, ← e2]
    · rw [List.all_cons, q1, q2]
      rfl
theorem v_inT {neg : Bool} {x : D} {ds : List D} (f : x.flat = true)
    (fs : ds.all D.flat = true)
    (q : Φ m (.bl (if neg then !inV x.v (ds.map D.v)
      else inV x.v (ds.map D.v)))) :
    VvC K l ρ (fun vs H Q => ∃ x y, vs = [x, y] ∧ rIn K neg x y H Q)
      [x, .tup ds] m Φ := by
  intro Z B H σ vs Q ok is k
  obtain ⟨v, w, rfl, h, h2⟩ := isAll2 is
  obtain ⟨rfl, fv⟩ := h.flat f
  cases h2 with
  | @tup a us _ h2 r =>
    obtain ⟨rfl, fu⟩ := r.flat fs
    exact ⟨_, _, rfl, _, _, rfl, .inr (sameT ok.sub h2), fv, fu,
      k _ _ m B H ok Fr.refl (.bl _) q⟩
/-! ### dicts -/
theorem e_dic0 (q : Φ m (.dic [])) : EvC K l tDNewK ρ m Φ := by
  intro Z B H σ Q ok k p hp
  obtain ⟨o2, f2⟩ := ok.new (o := .dK []) hp
  exact k _ _ m _ _ o2 f2 (.dic upd_same) q
/-- {i: j} of whole numbers -/
theorem e_dic1 {i j : Int} (q : Φ m (.dic [(i, j)])) :
    EvC K l (tDisp [(tC (.int i), tC (.int j))]) ρ m Φ := by
  intro Z B H σ Q ok k p hp
  refine ⟨upd_same, [(Sum.inl i, .int j)], rfl, by simp, ?_⟩
  rw [upd_upd]
  obtain ⟨o2, f2⟩ := ok.new (o := .dK [(Sum.inl i, .int j)]) hp
  exact k _ _ m _ _ o2 f2 (.dic (kis := [(i, j)]) upd_same) q
end
/-! ### a call by keywords alone; ** -/
section
variable {X : Cx} {CX : CXT} {k : Nat} {f : Addr} {fd : FuncData}
variable {ps ks : List Str} {sp : Sp} {E : XK} {x : Str} {p pos : Pos}
variable {kws : List Keyword} {tk : TA}
variable {g : List Value → List Value → List Value}
variable {gV : List V → List V → List V}
theorem pe_callK0 (F : FnOk X.prog X.w X.K X.mg X.base CX k f fd ps sp)
    (hr : Room k X.A) (hg : Gl X x) (hm : X.mg x = some (.ref f))
    (hk : PySem.W.keepIn X.K (.ref f) = true)
    (hb : KBinds X.K fd ps ks g gV) (hx : Passes CX X E)
    (hkw : PK X kws tk)
    (hall : (backToKw pos (keywordEach kws X.env)).all (·.1.isSome) = true
      := by rfl)
    (hks : (backToKw pos (keywordEach kws X.env)).filterMap (·.1) = ks
      := by rfl)
    (hdb : (x == ("__debug__" : Str)) = false := by decide)
    (hpl : ((backTo pos (starEach [] X.env)).any (·.1) ||
      (backToKw pos (keywordEach kws X.env)).any (·.1.isNone)) = false
      := by rfl) :
    PE X (.Call (.Name x p) [] kws pos) (tCallK sp gV E tNil tk) := by
  constructor
  intro pins s σ H Q I h
  refine wpAny_Call_Name_kw (ld_glob I hg hm ?_ hdb)
  refine PySem.W.callWith_KW0 (h₀ := X.base) I.ok.mod.kin hk hall
    (thn (hkw.run pos pins s σ H _ I h) ?_) hpl
  intro ws s2 ⟨zs, H2, I2, rz, q2⟩
  rw [hks]
  exact ⟨I2.kIn, run_fnk (us := []) F hr hb hx I2 .nil rz q2⟩
/-- ** of greater numbers -/
def CPowW (i j : Int) : Prop :=
  0 ≤ j ∧ (Builtin.Int.intBits i : Int) * j ≤ 2 ^ 27
theorem op_powW : OpR X (binaryOp .Pow)
    (rI CPowW fun i j => .int (i ^ j.toNat)) :=
  opI fun _ _ _ _ _ _ _ hc q => pow_int hc.1 hc.2 q
end
end Wt

/-! The law's hand; more statements. -/
namespace Wt
open PySem PySem.Spec PyProof.Rows L2
/-- a def that reads data and tells some data -/
def SpR (K : PySem.W.Frag) (pre : List D → Prop)
    (Ψ : List D → D → Prop) : Sp :=
  fun vs H Q _ => ∃ B ds, Same B H ∧ IsAll K B vs ds ∧ pre ds ∧
    ∀ v d B2 H2, Same B B2 → Same H H2 → Same B2 H2 →
      (∀ a, H a ≠ none → B a = none → B2 a = none) →
      Ψ ds d → Is K B2 v d → Q v H2
section
variable {K : PySem.W.Frag} {l : Option Addr} {ρ : Ro} {m : Nat}
variable {Φ : Nat → D → Prop} {Θ : Nat → Bool → Prop}
variable {Nx : Nat → Ro → Prop} {Rt : Nat → D → Prop} {ts tb : TS}
variable {ta te tl : TE} {t u : TT} {tA tK : TA}
variable {Z : Addr → Prop} {B H : Hp} {σ : L2.St}
theorem e_callR {pre : List D → Prop} {Ψ : List D → D → Prop} {E : XK}
    (h : AvC K l tA ρ m fun m1 ds => pre ds ∧ ∀ d, Ψ ds d → Φ m1 d) :
    EvC K l (tCall (SpR K pre Ψ) [] E tA) ρ m Φ := by
  intro Z B H σ Q ok k
  refine h Z B H σ _ ok fun vs ds m1 B1 H1 o1 f1 i1 g1 => ?_
  rw [List.append_nil]
  refine ⟨B1, ds, o1.sub, i1, g1.1, fun v d B2 H2 s1 s2 s3 fr p iv => ?_⟩
  obtain ⟨o2, f2⟩ := o1.step (m' := m1) s1 s3
    (fun a e => by
      obtain ⟨g, s, c, q, r⟩ := (o1.hand a e).1
      exact ⟨g, s, c, s2 _ _ q, r⟩)
    (fun a o _ e => s2 a o e) fr
  exact k v _ m1 B2 H2 o2 (f1.trans f2) iv (g1.2 d p)
theorem body_R {pre : List D → Prop} {Ψ : List D → D → Prop} {vs : List V}
    {Q : VK} {E : XK} {N : List Str} (h : SpR K pre Ψ vs H Q E)
    (hb : ∀ ds, pre ds → vs.length = ds.length →
      SvC K none ts (datR ds ++ List.replicate (N.length - ds.length) none)
        0 (fun _ _ => Ψ ds .non) fun _ d => Ψ ds d) :
    ts { nx := fun _ H' => Q .non H', rt := Q } (L2.start N vs) H := by
  obtain ⟨B, ds, sb, is, hp, k⟩ := h
  have ex : ∀ d, Ψ ds d → SpP K (fun x => x = ds) (fun _ => d) vs H Q E := by
    intro d hd
    exact ⟨B, ds, sb, is, rfl, fun v B2 H2 s1 s2 s3 fr iv =>
      k v d B2 H2 s1 s2 s3 fr hd iv⟩
  have hl := is.length
  have ok : Ok K none (fun a => H a ≠ none ∧ B a = none) 0 B H
      (L2.start N vs) (datR ds ++ List.replicate (N.length - ds.length) none) := by
    refine ⟨⟨sb, fun a e => (nomatch e), fun z h => ⟨h.1, h.2, nofun⟩⟩,
      ?_, fun i s e => ?_, fun i j ds1 es a n e1 => ?_⟩
    · unfold L2.start datR
      simp [hl]
    · rcases Nat.lt_or_ge i ds.length with hi | hi
      · rw [List.getElem?_append_left (by unfold datR; simpa using hi)] at e
        obtain ⟨v, e2, q⟩ := isAll_get (l := none)
          (Z := fun a => H a ≠ none ∧ B a = none) (H := H) is e
        refine ⟨v, ?_, q⟩
        unfold L2.start
        rw [List.getElem?_append_left (by simpa [hl] using hi)]
        exact e2
      · rw [List.getElem?_append_right (by unfold datR; simpa using hi)] at e
        rw [List.getElem?_replicate] at e
        split at e <;> cases e
    · rcases Nat.lt_or_ge i ds.length with hi | hi
      · rw [List.getElem?_append_left (by unfold datR; simpa using hi)] at e1
        unfold datR at e1
        rw [List.getElem?_map] at e1
        cases q : ds[i]? with
        | none => rw [q] at e1; cases e1
        | some d => rw [q] at e1; cases e1
      · rw [List.getElem?_append_right (by unfold datR; simpa using hi)] at e1
        rw [List.getElem?_replicate] at e1
        split at e1 <;> cases e1
  have fin : ∀ v d m' B2 H2, Bs none (fun a => H a ≠ none ∧ B a = none) m' B2 H2 →
      Fr (fun a => H a ≠ none ∧ B a = none) B H B2 H2 → Is K B2 v d →
      Ψ ds d → Q v H2 := by
    intro v d m' B2 H2 o2 f2 i2 e
    refine k v d B2 H2 f2.sub (fun b o e => ?_) o2.sub
      (fun a h1 h2 => (o2.zs a ⟨h1, h2⟩).2.1) e i2
    cases q : B b with
    | none => rw [f2.kept b ⟨by rw [e]; exact nofun, q⟩]; exact e
    | some x =>
      rw [sb b x q] at e
      cases e
      exact o2.sub b _ (f2.sub b _ q)
  exact hb ds hp hl _ B H _ _ ok
    (fun σ' ρ' m' B2 H2 o2 f2 g2 => fin .non .non m' B2 H2 o2.toBs f2 .non g2)
    fin
/-! ### statements -/
theorem s_aug {i : Nat} {r : R2} {d : D}
    (hi : ρ[i]? = some (some (.dat d)))
    (h : EvC K l te ρ m fun m1 y => VvC K l ρ
      (fun vs H Q => ∃ x y, vs = [x, y] ∧ r x y H Q) [d, y] m1
      fun m2 z => Nx m2 (ρ.set i (some (.dat z)))) :
    SvC K l (tAug i te r) ρ m Nx Rt := by
  intro Z B H σ W ok k _
  obtain ⟨v, e, z⟩ := ok.sl i _ hi
  refine ⟨v, e, h Z B H σ _ ok fun v2 y m1 B1 H1 o1 f1 i1 g1 => ?_⟩
  obtain ⟨x, y, e2, q⟩ := g1 Z B1 H1 σ [v, v2]
    (fun z H2 => W.nx (σ.set i (some z)) H2) o1
    (.cons (Is.mono f1.sub z) (.cons i1 .nil))
    fun v3 d3 m2 B2 H2 o2 f2 i2 g2 =>
      k _ _ m2 B2 H2 (o2.set i2) (f1.trans f2) g2
  cases e2
  exact q
theorem s_par {i j : Nat} (h : AvC K l tA ρ m fun m1 ds => ∃ x y,
      ds = [x, y] ∧
      Nx m1 ((ρ.set i (some (.dat x))).set j (some (.dat y)))) :
    SvC K l (tPar i j tA) ρ m Nx Rt := by
  intro Z B H σ W ok k _
  refine h Z B H σ _ ok fun vs ds m1 B1 H1 o1 f1 i1 g1 => ?_
  obtain ⟨x, y, rfl, q⟩ := g1
  obtain ⟨v, w, rfl, h1, h2⟩ := isAll2 i1
  exact ⟨v, w, rfl, k _ _ m1 B1 H1 ((o1.set h1).set h2) f1 q⟩
/-! ### the hand -/
theorem e_hand0 {i : Nat} (hi : ρ[i]? = some (some .hand))
    (q : ∀ g : Int, 0 ≤ g → g < 10 ^ 600 → Φ m (.int g)) :
    EvC K l (tOp (rIxL K) (tVar i) (tC (.int 0))) ρ m Φ := by
  intro Z B H σ Q ok k
  obtain ⟨v, e, a, ha, rfl⟩ := ok.sl i _ hi
  obtain ⟨g, s, c, e2, a1, a2, a3, a4, a5, a6⟩ := (ok.hand a ha).1
  exact ⟨_, e, a, _, 0, _, rfl, rfl, SqL.of e2, rfl,
    k _ _ m B H ok Fr.refl (.int g) (q g a1 a2)⟩
theorem e_hand1 {i : Nat} (hi : ρ[i]? = some (some .hand))
    (q : ∀ s : Int, 0 ≤ s → s < 2 ^ 61 → Φ m (.int s)) :
    EvC K l (tOp (rIxL K) (tVar i) (tC (.int 1))) ρ m Φ := by
  intro Z B H σ Q ok k
  obtain ⟨v, e, a, ha, rfl⟩ := ok.sl i _ hi
  obtain ⟨g, s, c, e2, a1, a2, a3, a4, a5, a6⟩ := (ok.hand a ha).1
  exact ⟨_, e, a, _, 1, _, rfl, rfl, SqL.of e2, rfl,
    k _ _ m B H ok Fr.refl (.int s) (q s a3 a4)⟩
theorem e_hand2 {i : Nat} (hi : ρ[i]? = some (some .hand))
    (q : ∀ c : Int, 0 ≤ c → c ≤ m → Φ m (.int c)) :
    EvC K l (tOp (rIxL K) (tVar i) (tC (.int 2))) ρ m Φ := by
  intro Z B H σ Q ok k
  obtain ⟨v, e, a, ha, rfl⟩ := ok.sl i _ hi
  obtain ⟨g, s, c, e2, a1, a2, a3, a4, a5, a6⟩ := (ok.hand a ha).1
  exact ⟨_, e, a, _, 2, _, rfl, rfl, SqL.of e2, rfl,
    k _ _ m B H ok Fr.refl (.int c) (q c a5 a6)⟩
theorem Ok.hands {a : Addr} {n : Nat} {xs : List V}
    (h : Ok K l Z m B H σ ρ) (ha : l = some a)
    (hh : Hand (upd H a (.lst xs)) a n) :
    Ok K l Z n B (upd H a (.lst xs)) σ ρ ∧ Fr Z B H B (upd H a (.lst xs)) := by
  refine h.step (Same.refl B) (fun b x e => ?_) (fun b e => ?_)
    (fun b x n e => ?_) (fun b _ e => e)
  · have n : b ≠ a := fun z => by
      subst z; rw [(h.hand b ha).2] at e; cases e
    rw [upd_ne n]
    exact h.sub b x e
  · rw [ha] at e
    cases e
    exact hh
  · have n : b ≠ a := fun z => n (z ▸ ha)
    rw [upd_ne n]
    exact e
theorem s_hand0 {i : Nat} (hi : ρ[i]? = some (some .hand))
    (h : EvC K l te ρ m fun m1 d => ∃ g : Int, d = .int g ∧ 0 ≤ g ∧
      g < 10 ^ 600 ∧ Nx m1 ρ) :
    SvC K l (tAsg te (gSub (tVar i) (tC (.int 0)) rSetL)) ρ m Nx Rt := by
  intro Z B H σ W ok k _
  refine h Z B H σ _ ok fun v d m1 B1 H1 o1 f1 i1 g1 => ?_
  obtain ⟨g', rfl, b1, b2, q⟩ := g1
  cases i1
  obtain ⟨v, e, a, ha, rfl⟩ := o1.sl i _ hi
  obtain ⟨g, s, c, e2, a1, a2, a3, a4, a5, a6⟩ := (o1.hand a ha).1
  refine ⟨_, e, a, _, 0, 0, rfl, rfl, e2, rfl, ?_⟩
  obtain ⟨o2, f2⟩ := o1.hands (n := m1) ha
    ⟨g', s, c, upd_same, b1, b2, a3, a4, a5, a6⟩
  exact k _ _ m1 B1 _ o2 (f1.trans f2) q
theorem s_hand2 {i : Nat} (hi : ρ[i]? = some (some .hand))
    (h : EvC K l te ρ m fun m1 d => ∃ (c : Int) (n : Nat), d = .int c ∧
      0 ≤ c ∧ c ≤ n ∧ Nx n ρ) :
    SvC K l (tAsg te (gSub (tVar i) (tC (.int 2)) rSetL)) ρ m Nx Rt := by
  intro Z B H σ W ok k _
  refine h Z B H σ _ ok fun v d m1 B1 H1 o1 f1 i1 g1 => ?_
  obtain ⟨c', n, rfl, b1, b2, q⟩ := g1
  cases i1
  obtain ⟨v, e, a, ha, rfl⟩ := o1.sl i _ hi
  obtain ⟨g, s, c, e2, a1, a2, a3, a4, a5, a6⟩ := (o1.hand a ha).1
  refine ⟨_, e, a, _, 2, 2, rfl, rfl, e2, rfl, ?_⟩
  obtain ⟨o2, f2⟩ := o1.hands (n := n) ha
    ⟨g, s, c', upd_same, a1, a2, a3, a4, b1, b2⟩
  exact k _ _ n B1 _ o2 (f1.trans f2) q
/-- what _law_hand tells -/
def isHand (d : D) : Prop := ∃ g s : Int, d = .lst [.int g, .int s, .int 0] ∧
  0 ≤ g ∧ g < 10 ^ 600 ∧ 0 ≤ s ∧ s < 2 ^ 61
/-- an item of a list or a tuple -/
def D.items : D → Option (List D)
  | .lst xs => some xs
  | .tup xs => some xs
  | _ => none
theorem v_ixA {c d : D} {ds : List D} {i : Int} (hc : c.items = some ds)
    (h0 : 0 ≤ i) (hd : ds[i.toNat]? = some d) (q : Φ m d) :
    VvC K l ρ (fun vs H Q => ∃ x y, vs = [x, y] ∧ rIx K x y H Q)
      [c, .int i] m Φ := by
  intro Z B H σ vs Q ok is k
  cases c with
  | lst xs =>
    cases hc
    obtain ⟨x, y, e, z⟩ := v_ixL h0 hd q Z B H σ vs Q ok is k
    exact ⟨x, y, e, .inl z⟩
  | tup xs =>
    cases hc
    obtain ⟨x, y, e, z⟩ := v_ixT h0 hd q Z B H σ vs Q ok is k
    exact ⟨x, y, e, .inr (.inl z)⟩
  | _ => cases hc
theorem v_lenA {c : D} {ds : List D} (hc : c.items = some ds)
    (q : Φ m (.int ds.length)) :
    VvC K l ρ (fun xs H Q => ∃ p ys, xs = [.ref p] ∧
      (SqL K H p ys ∨ SqT K H p ys) ∧ Q (.int ys.length) H) [c] m Φ := by
  cases c with
  | lst xs => cases hc; exact v_lenL q
  | tup xs => cases hc; exact v_lenT q
  | _ => cases hc
theorem v_neg {i : Int} (q : Φ m (.int (-i))) :
    VvC K l ρ (fun vs H Q => ∃ x, vs = [x] ∧ rU (fun i => .int (-i)) x H Q)
      [.int i] m Φ := by
  intro Z B H σ vs Q ok is k
  obtain ⟨v, rfl, h⟩ := isAll1 is
  cases h
  exact ⟨_, rfl, i, rfl, k _ _ m B H ok Fr.refl (.int _) q⟩
def Sl.isHand : Option Sl → Bool
  | some .hand => true
  | _ => false
/-- the hand is put away -/
theorem Ok.noHand {a : Addr} {n i : Nat} (h : Ok K (some a) Z n B H σ ρ)
    (hn : ((ρ.set i none).all fun s => !Sl.isHand s) = true) :
    Ok K none Z m B H σ (ρ.set i none) := by
  have ne : ∀ (j : Nat) s, (ρ.set i none)[j]? = some (some s) →
      ρ[j]? = some (some s) ∧ s ≠ .hand := by
    intro j s e
    refine ⟨?_, fun z => ?_⟩
    · by_cases hj : i = j
      · subst hj
        obtain ⟨hi, q⟩ := List.getElem?_eq_some_iff.mp e
        rw [List.length_set] at hi
        rw [List.getElem?_set_self hi] at e
        cases e
      · rw [List.getElem?_set_ne hj] at e
        exact e
    · subst z
      have := List.all_eq_true.mp hn _ (List.mem_of_getElem? e)
      cases this
  refine ⟨⟨h.sub, fun b e => (nomatch e), fun z hz => ?_⟩, ?_, ?_, ?_⟩
  · obtain ⟨q1, q2, q3⟩ := h.zs z hz
    exact ⟨q1, q2, nofun⟩
  · rw [List.length_set]
    exact h.len
  · intro j s e
    obtain ⟨e2, nh⟩ := ne j s e
    obtain ⟨v, e3, q⟩ := h.sl j s e2
    refine ⟨v, e3, ?_⟩
    cases s with
    | dat d => exact q
    | hand => exact absurd rfl nh
    | own ds =>
      obtain ⟨b, xs, rfl, q1, q2, q3, q4, q5⟩ := q
      exact ⟨b, xs, rfl, q1, q2, q3, nofun, q5⟩
  · intro j k ds es b n e1 e2
    exact h.dis j k ds es b n (ne j _ e1).1 (ne k _ e2).1
/-- hand = _law_hand(script, k), and what follows with it -/
theorem s_newHand {pre : List D → Prop} {E : XK} {i j c : Nat}
    {ns : List Int} {n : Int} (hj : ρ[j]? = some (some (.dat (.scr ns))))
    (hc : ρ[c]? = some (some (.dat (.int n)))) (hp : pre [.scr ns, .int n])
    (hi : i < ρ.length)
    (h : ∀ a, SvC K (some a) tb (ρ.set i (some .hand)) 0
      (fun _ ρ' => ((ρ'.set i none).all fun s => !Sl.isHand s) = true ∧
        Nx m (ρ'.set i none)) fun _ d => Rt m d) :
    SvC K none (tSeq (tAsg (tCall (SpR K pre fun _ d => isHand d) [] E
      (tCons (tVar j) (tCons (tVar c) tNil))) (gName i)) tb) ρ m Nx Rt := by
  intro Z B H σ W ok k jr
  obtain ⟨v1, e1, z1⟩ := ok.sl j _ hj
  obtain ⟨v2, e2, z2⟩ := ok.sl c _ hc
  refine ⟨v1, e1, v2, e2, ?_⟩
  cases z2
  cases z1 with
  | @scr s _ hs =>
    obtain ⟨B0, s0, hs0, hf⟩ : ∃ B0 : Hp, Same B0 B ∧
        Scr K B0 s (ns.map V.int) ∧
        ∀ b x, B0 b = some x → ∃ o u, x = .frz o u := by
      rcases hs with ⟨o, q⟩ | q
      · refine ⟨fun b => if b = s then B b else none, fun b x e => ?_,
          .inl ⟨o, (if_pos rfl).trans q⟩, fun b x e => ?_⟩
        · have e : (if b = s then B b else none) = some x := e
          by_cases w : b = s
          · rw [if_pos w] at e; exact e
          · rw [if_neg w] at e; cases e
        · have e : (if b = s then B b else none) = some x := e
          by_cases w : b = s
          · subst w
            rw [if_pos rfl, q] at e
            cases e
            exact ⟨_, _, rfl⟩
          · rw [if_neg w] at e; cases e
      · exact ⟨fun _ => none, fun b x e => (nomatch e), .inr q,
          fun b x e => (nomatch e)⟩
    have z0 : IsAll K B0 [V.ref s, .int n] [.scr ns, .int n] :=
      .cons (.scr hs0) (.cons (.int n) .nil)
    show SpR K pre (fun _ d => isHand d) ([V.ref s, .int n] ++ []) H _ E
    rw [List.append_nil]
    refine ⟨B0, _, s0.trans ok.sub, z0, hp, fun v d B2 H2 f1 f2 f3 f4 p iv => ?_⟩
    obtain ⟨g, sd, rfl, b1, b2, b3, b4⟩ := p
    cases iv with
    | @lst a xs _ ha is =>
      have ex : xs = [.int g, .int sd, .int 0] := by
        cases is with
        | cons h1 r =>
          cases r with
          | cons h2 r =>
            cases r with
            | cons h3 r => cases r; cases h1; cases h2; cases h3; rfl
      subst ex
      have fresh : H a = none := by
        cases q : H a with
        | none => rfl
        | some o =>
          exfalso
          cases w : B0 a with
          | none =>
            rw [f4 a (by rw [q]; exact nofun) w] at ha
            cases ha
          | some x =>
            obtain ⟨o', u, rfl⟩ := hf a x w
            rw [f1 a _ w] at ha
            cases ha
      have hB : B a = none := ok.same0 fresh
      have hh : Hand H2 a 0 :=
        ⟨g, sd, 0, f3 _ _ ha, b1, b2, b3, b4, by omega, by omega⟩
      have other : ∀ b, H b ≠ none → b ≠ a := fun b q w => q (w ▸ fresh)
      have ok2 : Ok K (some a) Z 0 B H2 (σ.set i (some (.ref a)))
          (ρ.set i (some .hand)) := by
        refine ⟨⟨ok.sub.trans f2, fun b e => ?_, fun z hz => ?_⟩, ?_, ?_, ?_⟩
        · cases e
          exact ⟨hh, hB⟩
        · obtain ⟨q1, q2, _⟩ := ok.zs z hz
          refine ⟨?_, q2, fun e => other z q1 (Option.some.inj e).symm⟩
          cases w : H z with
          | none => exact absurd w q1
          | some x => rw [f2 z x w]; exact nofun
        · rw [List.length_set, List.length_set]
          exact ok.len
        · intro b x e
          by_cases w : i = b
          · subst w
            rw [List.getElem?_set_self hi] at e
            cases e
            exact ⟨.ref a, List.getElem?_set_self (by rw [ok.len]; exact hi),
              a, rfl, rfl⟩
          · rw [List.getElem?_set_ne w] at e ⊢
            obtain ⟨v, e3, q⟩ := ok.sl b x e
            refine ⟨v, e3, ?_⟩
            cases x with
            | dat d => exact q
            | hand => obtain ⟨_, z, _⟩ := q; cases z
            | own ds =>
              obtain ⟨p, xs, rfl, q1, q2, q3, q4, q5⟩ := q
              refine ⟨p, xs, rfl, f2 _ _ q1, q2, q3, fun z => ?_, q5⟩
              exact other p (by rw [q1]; exact nofun) (Option.some.inj z).symm
        · intro b b' ds es p w e3 e4
          have n1 : i ≠ b := fun z => by
            subst z; rw [List.getElem?_set_self hi] at e3; cases e3
          have n2 : i ≠ b' := fun z => by
            subst z; rw [List.getElem?_set_self hi] at e4; cases e4
          rw [List.getElem?_set_ne n1] at e3 ⊢
          rw [List.getElem?_set_ne n2] at e4 ⊢
          exact ok.dis b b' ds es p w e3 e4
      have f0 : Fr Z B H B H2 := ⟨Same.refl B, fun z hz => by
        cases w : H z with
        | none => exact absurd w (ok.zs z hz).1
        | some x => exact f2 z x w⟩
      refine h a Z B H2 _ W ok2 (fun σ3 ρ3 m3 B3 H3 o3 f3 g3 => ?_)
        fun v d m3 B3 H3 o3 f3 i3 g3 => ?_
      · exact k σ3 _ m B3 H3 (o3.noHand g3.1) (f0.trans f3) g3.2
      · refine jr v d m B3 H3 ⟨o3.sub, fun b e => (nomatch e), fun z hz => ?_⟩
          (f0.trans f3) i3 g3
        obtain ⟨q1, q2, _⟩ := o3.zs z hz
        exact ⟨q1, q2, nofun⟩
end
/-- the law's promise where the law's call begins -/
theorem law_start {K : PySem.W.Frag} {H : Hp} {a : Addr} {ns : List Int}
    {E : XK} (hO : Only H) (hS : SqL K H a (ns.map V.int)) :
    SpP K (fun ds => ∃ ns, ds = [.scr ns]) (fun _ => .bl true) [.ref a] H
      (fun v _ => v = .bl true) E := by
  have hs : Scr K H a (ns.map V.int) := by
    rcases hS with (h | h) | h
    · rcases hO a with z | ⟨o, xs, z⟩
      · rw [z] at h; cases h
      · rw [z] at h; cases h
    · exact .inl h
    · exact .inr h
  refine ⟨H, [.scr ns], Same.refl H, .cons (.scr hs) .nil, ⟨ns, rfl⟩, ?_⟩
  intro v B2 H2 _ _ _ _ iv
  cases iv
  rfl
end Wt

/-! What can be shown, put together of its parts. -/
namespace Wt
open PySem PySem.Spec PyProof.Rows L2
theorem pys_map (xs : List D) : D.pys xs = xs.map D.py := by
  induction xs with
  | nil => rfl
  | cons x r ih => rw [D.pys, ih]; rfl
theorem plains_all (xs : List D) : D.plains xs = xs.all D.plain := by
  induction xs with
  | nil => rfl
  | cons x r ih => rw [D.plains, ih]; rfl
theorem noLsts_all (xs : List D) : D.noLsts xs = xs.all D.noLst := by
  induction xs with
  | nil => rfl
  | cons x r ih => rw [D.noLsts, ih]; rfl
theorem showableAll_all (xs : List PyData) :
    PyData.showableAll xs = xs.all PyData.showable := by
  induction xs with
  | nil => rfl
  | cons x r ih => rw [PyData.showableAll, ih]; rfl
theorem hasDictAll_any (xs : List PyData) :
    PyData.hasDictAll xs = xs.any PyData.hasDict := by
  induction xs with
  | nil => rfl
  | cons x r ih => rw [PyData.hasDictAll, ih]; rfl
theorem leavesShortAll_all (b : Nat) (xs : List PyData) :
    PyData.leavesShortAll b xs = xs.all (PyData.leavesShort b) := by
  induction xs with
  | nil => rfl
  | cons x r ih => rw [PyData.leavesShortAll, ih]; rfl
theorem depthAll_le {k : Nat} : ∀ (xs : List PyData),
    (∀ x ∈ xs, x.depth ≤ k) → PyData.depthAll xs ≤ k
  | [], _ => by simp [PyData.depthAll]
  | x :: r, h => by
    have h1 := h x List.mem_cons_self
    have h2 := depthAll_le r fun y hy => h y (List.mem_cons_of_mem _ hy)
    simp only [PyData.depthAll]
    omega
theorem weightAll_le {k : Nat} : ∀ (xs : List PyData),
    (∀ x ∈ xs, x.weight ≤ k) → PyData.weightAll xs ≤ (k + 1) * xs.length
  | [], _ => by simp [PyData.weightAll]
  | x :: r, h => by
    have h1 := h x List.mem_cons_self
    have h2 := weightAll_le r fun y hy => h y (List.mem_cons_of_mem _ hy)
    simp only [PyData.weightAll, List.length_cons]
    rw [Nat.mul_add, Nat.mul_one]
    omega
/-- a part that can be shown, of at most so deep and so much -/
structure Itm (k w : Nat) (d : D) : Prop where
  plain : d.plain = true
  able : d.py.showable = true
  deep : d.py.depth ≤ k
  short : d.py.leavesShort 60 = true
  wt : d.py.weight ≤ w
def itmB (k w : Nat) (d : D) : Bool :=
  d.plain && d.py.showable && decide (d.py.depth ≤ k) &&
    d.py.leavesShort 60 && decide (d.py.weight ≤ w)
theorem Itm.of {k w : Nat} {d : D} (h : itmB k w d = true) : Itm k w d := by
  unfold itmB at h
  simp only [Bool.and_eq_true, decide_eq_true_eq] at h
  exact ⟨h.1.1.1.1, h.1.1.1.2, h.1.1.2, h.1.2, h.2⟩
theorem Itm.mono {k w k' w' : Nat} {d : D} (h : Itm k w d) (hk : k ≤ k')
    (hw : w ≤ w') : Itm k' w' d :=
  ⟨h.plain, h.able, Nat.le_trans h.deep hk, h.short, Nat.le_trans h.wt hw⟩
theorem Itm.shows {k w : Nat} {d : D} (h : Itm k w d) (hk : k ≤ 100)
    (hw : w ≤ 200000) (_ : d.py.hasDict = true → d.noLst = true) :
    Shows d := by
  refine ⟨h.plain, h.able, Nat.le_trans h.deep hk, ?_⟩
  have q := PyData.shown_le 60 (by decide) d.py h.short
  have := h.wt
  rw [sizeLine_eq]
  omega
theorem Itm.show {k w : Nat} {d : D} (h : Itm k w d) (hk : k ≤ 100)
    (hw : w ≤ 200000) : Shows d := by
  refine ⟨h.plain, h.able, Nat.le_trans h.deep hk, ?_⟩
  have q := PyData.shown_le 60 (by decide) d.py h.short
  have := h.wt
  rw [sizeLine_eq]
  omega
theorem Itm.tup {k w : Nat} {xs : List D} (h : ∀ x ∈ xs, Itm k w x) :
    Itm (k + 1) ((w + 1) * xs.length) (.tup xs) := by
  refine ⟨?_, ?_, ?_, ?_, ?_⟩
  · rw [D.plain, plains_all, List.all_eq_true]
    exact fun x hx => (h x hx).plain
  · rw [D.py, PyData.showable, pys_map, showableAll_all, List.all_map,
      List.all_eq_true]
    exact fun x hx => (h x hx).able
  · have := depthAll_le (k := k) (D.pys xs) (fun x hx => by
      rw [pys_map] at hx
      obtain ⟨y, hy, rfl⟩ := List.mem_map.mp hx
      exact (h y hy).deep)
    simp only [D.py, PyData.depth]
    omega
  · rw [D.py, PyData.leavesShort, pys_map, leavesShortAll_all, List.all_map,
      List.all_eq_true]
    exact fun x hx => (h x hx).short
  · have := weightAll_le (k := w) (D.pys xs) (fun x hx => by
      rw [pys_map] at hx
      obtain ⟨y, hy, rfl⟩ := List.mem_map.mp hx
      exact (h y hy).wt)
    rw [pys_map, List.length_map] at this
    simp only [D.py, PyData.weight, pys_map]
    omega
theorem Itm.lst {k w : Nat} {xs : List D} (h : ∀ x ∈ xs, Itm k w x) :
    Itm (k + 1) ((w + 1) * xs.length) (.lst xs) := by
  refine ⟨?_, ?_, ?_, ?_, ?_⟩
  · rw [D.plain, plains_all, List.all_eq_true]
    exact fun x hx => (h x hx).plain
  · rw [D.py, PyData.showable, pys_map, showableAll_all, List.all_map,
      List.all_eq_true]
    exact fun x hx => (h x hx).able
  · have := depthAll_le (k := k) (D.pys xs) (fun x hx => by
      rw [pys_map] at hx
      obtain ⟨y, hy, rfl⟩ := List.mem_map.mp hx
      exact (h y hy).deep)
    simp only [D.py, PyData.depth]
    omega
  · rw [D.py, PyData.leavesShort, pys_map, leavesShortAll_all, List.all_map,
      List.all_eq_true]
    exact fun x hx => (h x hx).short
  · have := weightAll_le (k := w) (D.pys xs) (fun x hx => by
      rw [pys_map] at hx
      obtain ⟨y, hy, rfl⟩ := List.mem_map.mp hx
      exact (h y hy).wt)
    rw [pys_map, List.length_map] at this
    simp only [D.py, PyData.weight, pys_map]
    omega
theorem hasDict_tup {xs : List D} (h : (D.tup xs).py.hasDict = true) :
    ∃ x ∈ xs, x.py.hasDict = true := by
  rw [D.py, PyData.hasDict, pys_map, hasDictAll_any, List.any_map,
    List.any_eq_true] at h
  exact h
theorem hasDict_lst {xs : List D} (h : (D.lst xs).py.hasDict = true) :
    ∃ x ∈ xs, x.py.hasDict = true := by
  rw [D.py, PyData.hasDict, pys_map, hasDictAll_any, List.any_map,
    List.any_eq_true] at h
  exact h
theorem noLst_tup {xs : List D} (h : ∀ x ∈ xs, x.noLst = true) :
    (D.tup xs).noLst = true := by
  rw [D.noLst, noLsts_all, List.all_eq_true]
  exact h
/-- small whole numbers -/
theorem itm_int {i : Int} (h1 : -10000 ≤ i) (h2 : i ≤ 10000) :
    Itm 0 15 (.int i) := by
  have hl : i.natAbs.log2 < 14 :=
    PySem.Flt.log2_lt_of (by decide) (show i.natAbs < 2 ^ 14 by omega)
  refine ⟨rfl, ?_, by simp [D.py, PyData.depth], ?_, ?_⟩
  · rw [D.py, PyData.showable]
    exact decide_eq_true (by omega)
  · rw [D.py, PyData.leavesShort]
    refine decide_eq_true ?_
    have e := int_text_length_le (a := i) (k := 14) (by decide) hl
    show (Str.ofString (toString i)).length ≤ 60
    rw [PySem.ofString_length]
    omega
  · rw [D.py, PyData.weight]
    split
    · omega
    · omega
end Wt

namespace Wt
open PySem PySem.Spec PyProof.Rows L2
/-! ### tuple * n -/
theorem tuple_mul_same (l : Addr) (items : Array Value) (n : Nat)
    (dd : Option Addr) (sl : Array (Option Value)) (x : Int) (u : Tok)
    (c0 : (decide (x < -(2 ^ 63)) || decide (x ≥ 2 ^ 63)) = false)
    (c1 : (items.isEmpty || x == 1) = true) :
    Meets (Builtin.«tuple.__mul__» ⟨[.ref l, .int x u], []⟩)
      (fun _ R s => s.heap.get? l = some
        { cls := .type "tuple", dict := dd, data := .seq items n, slots := sl } ∧
        R (.ok (.ret (Value.ref l))) s) :=
  .of_wp fun prog w A R s h => by
    obtain ⟨hp, g, d, tk, os⟩ := s
    obtain ⟨hl, h⟩ := h
    have f1 := AutoSeq1.idx_int
    wp_walk using wpAny_loadPart' hl
    repeat (first
      | (refine wpAny_ite_false (decide_eq_false (by rw [c0]; exact Bool.false_ne_true)) ?_; wp_walk using wpAny_loadPart' hl)
      | (refine wpAny_ite_true (decide_eq_true (by rw [c1])) ?_; wp_walk using wpAny_loadPart' hl))
    exact ⟨_, rfl, h⟩
theorem tuple_mul_none (l : Addr) (items : Array Value) (n : Nat)
    (dd : Option Addr) (sl : Array (Option Value)) (x : Int) (u : Tok)
    (c0 : (decide (x < -(2 ^ 63)) || decide (x ≥ 2 ^ 63)) = false)
    (c1 : (items.isEmpty || x == 1) = false)
    (c2 : (decide (x ≤ 0) || items.isEmpty) = true) :
    Meets (Builtin.«tuple.__mul__» ⟨[.ref l, .int x u], []⟩)
      (fun _ R s => s.heap.get? l = some
        { cls := .type "tuple", dict := dd, data := .seq items n, slots := sl } ∧
        R (.ok (.ret (Value.ref s.heap.objs.size))) { s with heap := s.heap.push { cls := Value.type "tuple", data := Data.seq #[] }, toks := s.toks }) :=
  .of_wp fun prog w A R s h => by
    obtain ⟨hp, g, d, tk, os⟩ := s
    obtain ⟨hl, h⟩ := h
    have f1 := AutoSeq1.idx_int
    wp_walk using wpAny_loadPart' hl
    repeat (first
      | (refine wpAny_ite_false (decide_eq_false (by rw [c0]; exact Bool.false_ne_true)) ?_; wp_walk using wpAny_loadPart' hl)
      | (refine wpAny_ite_false (decide_eq_false (by rw [c1]; exact Bool.false_ne_true)) ?_; wp_walk using wpAny_loadPart' hl)
      | (refine wpAny_ite_true (decide_eq_true (by rw [c2])) ?_; wp_walk using wpAny_loadPart' hl))
    exact ⟨_, rfl, h⟩
def rRepA (K : PySem.W.Frag) : R2 := fun x y H Q => ∃ l k xs,
  x = .ref l ∧ y = .int k ∧ SqT K H l xs ∧ 0 ≤ k ∧ k ≤ 1000 ∧
  xs.length ≤ 1000 ∧ (xs = [] ∨ k = 1 → Q (.ref l) H) ∧
  (xs ≠ [] → k ≠ 1 → NewT H (List.replicate k.toNat xs).flatten Q)
theorem op_repA {X : Cx} : OpR X (binaryOp .Mult) (rRepA X.K) := by
  intro pins s σ H x y v u Q I rx ry h
  obtain ⟨l, k, xs, rfl, rfl, hT, h1, h2, hz, q1, q2⟩ := h
  cases rx
  obtain ⟨t, rfl⟩ := ry
  obtain ⟨its, r, ⟨⟨cls, dd, data, sl⟩, ho, hc, n, hd⟩, hs⟩ := I.tuple hT
  simp only at hc hd
  subst hc hd
  have hle : its.length = xs.length := r.length.symm
  have c0 : (decide (k < -(2 ^ 63)) || decide (k ≥ 2 ^ 63)) = false := by
    rw [decide_eq_false (by omega), decide_eq_false (by omega)]; rfl
  by_cases hsame : xs = [] ∨ k = 1
  · have c1 : (its.toArray.isEmpty || k == 1) = true := by
      rcases hsame with e | e
      · subst e
        cases its with
        | nil => rfl
        | cons a b => simp at hle
      · subst e
        simp
    exact wpAny_binaryOp_repeat_ref (T := "tuple") (U := "int") (by decide)
      ⟨_, ho, rfl⟩ (fun s' => typeIs_int s' k t) noFill_tuple_mul
      F.fills_int_mul F.slot_int_rmul repeat_tuple F.slot_int_index.lookup
      (call_meets F.slot_int_rmul (typeIs_int s k t) F.entry_int_rmul
        (F.args_int_rmul_2 _ _) (int_rmul_tuple k t l its.toArray n dd sl)
        ⟨ho, rfl, ⟨_, ho, rfl⟩, call_meets F.slot_tuple_mul ⟨_, ho, rfl⟩
          F.entry_tuple_mul (F.args_tuple_mul_2 _ _)
          (tuple_mul_same l its.toArray n dd sl k t c0 c1)
          ⟨ho, .ref l, H, I, rfl, q1 hsame⟩⟩)
  · have hne : xs ≠ [] := fun e => hsame (.inl e)
    have hk1 : k ≠ 1 := fun e => hsame (.inr e)
    have hi : its.toArray.isEmpty = false := by
      cases its with
      | nil => exact absurd (List.eq_nil_of_length_eq_zero hle.symm) hne
      | cons a b => rfl
    have c1 : (its.toArray.isEmpty || k == 1) = false := by
      rw [hi, Bool.false_or]
      exact beq_eq_false_iff_ne.mpr hk1
    have q := q2 hne hk1
    by_cases hk0 : k = 0
    · subst hk0
      refine wpAny_binaryOp_repeat_ref (T := "tuple") (U := "int") (by decide)
        ⟨_, ho, rfl⟩ (fun s' => typeIs_int s' 0 t) noFill_tuple_mul
        F.fills_int_mul F.slot_int_rmul repeat_tuple F.slot_int_index.lookup
        (call_meets F.slot_int_rmul (typeIs_int s 0 t) F.entry_int_rmul
          (F.args_int_rmul_2 _ _) (int_rmul_tuple 0 t l its.toArray n dd sl)
          ⟨ho, rfl, ⟨_, ho, rfl⟩, call_meets F.slot_tuple_mul ⟨_, ho, rfl⟩
            F.entry_tuple_mul (F.args_tuple_mul_2 _ _)
            (tuple_mul_none l its.toArray n dd sl 0 t c0 c1 rfl) ⟨ho, ?_⟩⟩)
      exact ep_newT (xs := []) (its := []) (n := 0) (tk := s.toks) I
        (Nat.zero_le _) .nil q
    · have hsz0 : its.toArray.size = xs.length := by
        rw [List.size_toArray, hle]
      have hm : ((its.toArray.size : Nat) : Int) * k ≤ 1000000 := by
        rw [hsz0]
        have a1 : ((xs.length : Nat) : Int) * k ≤ 1000 * k :=
          Int.mul_le_mul_of_nonneg_right (by omega) (by omega)
        omega
      have flen : (List.replicate k.toNat its).flatten.length ≤ sizeLine := by
        rw [PyProof.Rows.lm_len_rep_flat, hle, sizeLine_eq]
        have a1 : k.toNat * xs.length ≤ 1000 * 1000 :=
          Nat.mul_le_mul (by omega) hz
        omega
      have c2 : (decide (k ≤ 0) || its.toArray.isEmpty) = false := by
        rw [hi, Bool.or_false]
        exact decide_eq_false (by omega)
      have c4 : Builtin.Tuple.tupleTooMany
          (((its.toArray.size : Nat) : Int) * k) = false := by
        unfold Builtin.Tuple.tupleTooMany
        rw [sizeLine_eq]
        exact decide_eq_false (by omega)
      refine wpAny_binaryOp_repeat_ref (T := "tuple") (U := "int") (by decide)
        ⟨_, ho, rfl⟩ (fun s' => typeIs_int s' k t) noFill_tuple_mul
        F.fills_int_mul F.slot_int_rmul repeat_tuple F.slot_int_index.lookup
        (call_meets F.slot_int_rmul (typeIs_int s k t) F.entry_int_rmul
          (F.args_int_rmul_2 _ _) (int_rmul_tuple k t l its.toArray n dd sl)
          ⟨ho, rfl, ⟨_, ho, rfl⟩, call_meets F.slot_tuple_mul ⟨_, ho, rfl⟩
            F.entry_tuple_mul (F.args_tuple_mul_2 _ _)
            (tuple_mulW l its.toArray n dd sl k t c0 c1 c2 (by omega) c4
              (by rw [size_rep, List.size_toArray]; exact flen)) ⟨ho, ?_⟩⟩)
      rw [size_rep]
      have rr : Vals (List.replicate k.toNat xs).flatten
          (List.replicate k.toNat its).flatten := by
        have : ∀ n : Nat, Vals (List.replicate n xs).flatten
            (List.replicate n its).flatten := by
          intro n
          induction n with
          | zero => exact .nil
          | succ n ih =>
            rw [List.replicate_succ, List.replicate_succ, List.flatten_cons,
              List.flatten_cons]
            exact r.append ih
        exact this _
      exact ep_newT (n := 0) (tk := s.toks) I (by rw [rr.length]; exact flen) rr q
section
variable {K : PySem.W.Frag} {l : Option Addr} {ρ : Ro} {m : Nat}
variable {Φ : Nat → D → Prop} {Θ : Nat → Bool → Prop}
variable {Nx : Nat → Ro → Prop} {Rt : Nat → D → Prop} {ts tb : TS}
variable {ta te tl : TE} {t u : TT} {tA tK : TA}
variable {Z : Addr → Prop} {B H : Hp} {σ : L2.St}
theorem IsAll.rep {vs : List V} {ds : List D} (h : IsAll K B vs ds) :
    ∀ n : Nat, IsAll K B (List.replicate n vs).flatten
      (List.replicate n ds).flatten
  | 0 => .nil
  | n + 1 => by
    rw [List.replicate_succ, List.replicate_succ, List.flatten_cons,
      List.flatten_cons]
    exact h.append (IsAll.rep h n)
theorem v_repT {ds : List D} {k : Int} (h0 : 0 ≤ k) (h1 : k ≤ 1000)
    (hl : ds.length ≤ 1000)
    (q : Φ m (.tup (List.replicate k.toNat ds).flatten)) :
    VvC K l ρ (fun vs H Q => ∃ x y, vs = [x, y] ∧ rRepA K x y H Q)
      [.tup ds, .int k] m Φ := by
  intro Z B H σ vs Q ok is kk
  obtain ⟨v, w, rfl, h, h2⟩ := isAll2 is
  cases h2
  cases h with
  | @tup a us _ h r hcl =>
    refine ⟨_, _, rfl, a, k, us, rfl, rfl, sameT ok.sub h, h0, h1,
      by rw [r.length]; exact hl, fun e => ?_, fun n1 n2 p ob hp hd _ => ?_⟩
    · have e2 : (List.replicate k.toNat ds).flatten = ds := by
        rcases e with e | e
        · subst e
          cases r
          simp
        · subst e
          simp
      rw [e2] at q
      exact kk _ _ m B H ok Fr.refl (.tup h r hcl) q
    · obtain ⟨o2, f2⟩ := ok.new
        (o := .frz ob (.tup (List.replicate k.toNat us).flatten)) hp
      exact kk _ _ m _ _ o2 f2 (.newT upd_same hd
        ((r.mono f2.sub).rep _)) q
theorem v_repL {ds : List D} {k : Int} (h0 : 0 ≤ k) (h1 : k ≤ 1000)
    (hl : ds.length ≤ 1000)
    (q : Φ m (.lst (List.replicate k.toNat ds).flatten)) :
    VvC K l ρ (fun vs H Q => ∃ x y, vs = [x, y] ∧ rRep x y H Q)
      [.lst ds, .int k] m Φ := by
  intro Z B H σ vs Q ok is kk
  obtain ⟨v, w, rfl, h, h2⟩ := isAll2 is
  cases h2
  cases h with
  | @lst a us _ h r =>
    refine ⟨_, _, rfl, a, k, us, rfl, rfl, ok.sub _ _ h, by omega, by omega, ?_,
      fun p hp => ?_⟩
    · rw [r.length]
      have : ds.length * k.toNat ≤ 1000 * 1000 := Nat.mul_le_mul hl (by omega)
      rw [sizeLine_eq]
      omega
    · obtain ⟨o2, f2⟩ := ok.new (o := .lst (List.replicate k.toNat us).flatten) hp
      exact kk _ _ m _ _ o2 f2 (.lst upd_same ((r.mono f2.sub).rep _)) q
/-! ### == of whole numbers -/
theorem dec_int2 (i j : Int) : decide (V.int i = V.int j) = decide (i = j) := by
  by_cases h : i = j
  · subst h; simp
  · rw [decide_eq_false h, decide_eq_false (fun z => h (V.int.inj z))]
theorem v_eqI {i j : Int} (q : Φ m (.bl (decide (i = j)))) :
    VvC K l ρ (fun vs H Q => ∃ x y, vs = [x, y] ∧ rEq x y H Q)
      [.int i, .int j] m Φ := by
  intro Z B H σ vs Q ok is k
  obtain ⟨v, w, rfl, h, h2⟩ := isAll2 is
  cases h
  cases h2
  refine ⟨_, _, rfl, rfl, k _ _ m B H ok Fr.refl (.bl _) ?_⟩
  rw [dec_int2]
  exact q
theorem v_neI {i j : Int} (q : Φ m (.bl (!decide (i = j)))) :
    VvC K l ρ (fun vs H Q => ∃ x y, vs = [x, y] ∧ rNe x y H Q)
      [.int i, .int j] m Φ := by
  intro Z B H σ vs Q ok is k
  obtain ⟨v, w, rfl, h, h2⟩ := isAll2 is
  cases h
  cases h2
  refine ⟨_, _, rfl, rfl, k _ _ m B H ok Fr.refl (.bl _) ?_⟩
  rw [dec_int2]
  exact q
/-! ### == of data -/
mutual
def D.noDic : D → Bool
  | .lst xs => D.noDics xs
  | .tup xs => D.noDics xs
  | .dic _ => false
  | .ins _ _ _ => false
  | .scr _ => false
  | _ => true
def D.noDics : List D → Bool
  | [] => true
  | x :: xs => D.noDic x && D.noDics xs
end
mutual
theorem Is.dp (sb : Same B H) : ∀ {v : V} {d : D}, Is K B v d →
    d.noDic = true → Dp K H v d.py
  | _, _, .non, _ => .non
  | _, _, .bl b, _ => .bl b
  | _, _, .int i, _ => .int i
  | _, _, .str x, _ => .str x
  | _, _, .lst h r, e => by
    rw [D.noDic] at e
    exact .lst (SqL.of (sb _ _ h)) (IsAll.dp sb r e)
  | _, _, .tup h r _, e => by
    rw [D.noDic] at e
    exact .tup (sameT sb h) (IsAll.dp sb r e)
  | _, _, .dic _, e => by simp [D.noDic] at e
  | _, _, .ins _ _, e => by simp [D.noDic] at e
  | _, _, .scr _, e => by simp [D.noDic] at e
theorem IsAll.dp (sb : Same B H) : ∀ {vs : List V} {ds : List D},
    IsAll K B vs ds → D.noDics ds = true → DpAll K H vs (D.pys ds)
  | _, _, .nil, _ => .nil
  | _, _, .cons h r, e => by
    rw [D.noDics, Bool.and_eq_true] at e
    exact .cons (Is.dp sb h e.1) (IsAll.dp sb r e.2)
end
structure Eqs (d : D) : Prop where
  plain : d.noDic = true
  shaped : SeqAt.shaped d.py = true
theorem v_eqD {a b : D} (ha : Eqs a) (hb : Eqs b)
    (q : Φ m (.bl (PyData.eqv a.py b.py))) :
    VvC K l ρ (fun vs H Q => ∃ x y, vs = [x, y] ∧ rEqD K x y H Q)
      [a, b] m Φ := by
  intro Z B H σ vs Q ok is k
  obtain ⟨v, w, rfl, h, h2⟩ := isAll2 is
  exact ⟨_, _, rfl, _, _, h.dp ok.sub ha.plain, h2.dp ok.sub hb.plain,
    ha.shaped, hb.shaped, k _ _ m B H ok Fr.refl (.bl _) q⟩
theorem v_neD {a b : D} (ha : Eqs a) (hb : Eqs b)
    (q : Φ m (.bl (!PyData.eqv a.py b.py))) :
    VvC K l ρ (fun vs H Q => ∃ x y, vs = [x, y] ∧ rNeD K x y H Q)
      [a, b] m Φ := by
  intro Z B H σ vs Q ok is k
  obtain ⟨v, w, rfl, h, h2⟩ := isAll2 is
  exact ⟨_, _, rfl, _, _, h.dp ok.sub ha.plain, h2.dp ok.sub hb.plain,
    ha.shaped, hb.shaped, k _ _ m B H ok Fr.refl (.bl _) q⟩
end
end Wt

/-! Walks over two things; comprehensions of two clauses. -/
namespace Wt
open PySem PySem.Spec PyProof.Rows L2 RZ
section
variable {K : PySem.W.Frag} {l : Option Addr} {ρ : Ro} {m : Nat}
variable {Φ : Nat → D → Prop} {Θ : Nat → Bool → Prop}
variable {Nx : Nat → Ro → Prop} {Rt : Nat → D → Prop} {ts tb : TS}
variable {ta te tl : TE} {t u : TT} {tA tK : TA}
variable {Z Z' : Addr → Prop} {B H : Hp} {σ : L2.St}
theorem Ok.less (h : Ok K l Z' m B H σ ρ) (hz : ∀ z, Z z → Z' z) :
    Ok K l Z m B H σ ρ := by
  refine ⟨⟨h.sub, h.hand, fun z q => h.zs z (hz z q)⟩, h.len, ?_, h.dis⟩
  intro i s e
  obtain ⟨v, e1, q⟩ := h.sl i s e
  refine ⟨v, e1, ?_⟩
  cases s with
  | dat d => exact q
  | hand => exact q
  | own ds =>
    obtain ⟨a, xs, rfl, q1, q2, q3, q4, q5⟩ := q
    exact ⟨a, xs, rfl, q1, q2, fun z => q3 (hz a z), q4, q5⟩
/-- a new object of which nothing is told -/
theorem Ok.junk {p : Addr} {o : HO} (h : Ok K l Z m B H σ ρ)
    (hp : H p = none) : Ok K l Z m B (upd H p o) σ ρ ∧
      Fr Z B H B (upd H p o) :=
  ⟨(h.aside hp).less fun z q => .inl q,
    ⟨Same.refl B, fun z q => upd_ne fun e => (h.zs z q).1 (e ▸ hp)⟩⟩
theorem set_none {j : Nat} (e : ρ[j]? = some none) : ρ.set j none = ρ := by
  obtain ⟨hj, q⟩ := List.getElem?_eq_some_iff.mp e
  rw [← q, List.set_getElem_self]
theorem Ok.back {j : Nat} {v : Option V}
    (h : Ok K l Z m B H (σ.set j v) ρ) (e : ρ[j]? = some none) :
    Ok K l Z m B H σ ρ := by
  rw [← set_none e] at h
  exact h.unset e
theorem Ok.any {j : Nat} {v : Option V} (h : Ok K l Z m B H σ ρ)
    (e : ρ[j]? = some none) : Ok K l Z m B H (σ.set j v) ρ := by
  have ne : ∀ (i : Nat) x, ρ[i]? = some (some x) → j ≠ i := fun i x q z => by
    subst z; rw [e] at q; cases q
  refine ⟨h.toBs, by rw [List.length_set]; exact h.len, fun i s q => ?_,
    fun i k ds es a n q1 q2 => ?_⟩
  · rw [List.getElem?_set_ne (ne i s q)]
    exact h.sl i s q
  · rw [List.getElem?_set_ne (ne i _ q1), List.getElem?_set_ne (ne k _ q2)]
    exact h.dis i k ds es a n q1 q2
/-- the target of a pair -/
abbrev g2 (K : PySem.W.Frag) (i j : Nat) : TG :=
  gTup K 2 (gCons (gName i) (gCons (gName j) gNil))
theorem walk_zipT {a b : Addr} {xs ys : List V} {n : Nat}
    (hn : n = min xs.length ys.length) : Walk (ItzT K a b) n
      (fun H => SqT K H a xs ∧ SqT K H b ys)
      (YPair (fun i => xs[i]?) (fun i => ys[i]?)) := by
  refine ⟨fun i H hi h => ?_, fun H h => ⟨xs, ys, h.1, h.2, by omega⟩,
    fun i H x H' hi h q => ?_⟩
  · exact ⟨xs, ys, xs[i]'(by omega), ys[i]'(by omega), h.1, h.2,
      List.getElem?_eq_getElem _, List.getElem?_eq_getElem _⟩
  · obtain ⟨T, x1, y1, rfl, hT, rfl, e1, e2⟩ := q
    exact ⟨T, x1, y1, rfl, hT, rfl, e1 xs h.1, e2 ys h.2⟩
theorem lcw_turn2 {A T : Addr} {I : Nat → Nat → List D → Prop} {c i j : Nat}
    {x y : V} {H' : Hp} {P : D → D → Prop} (hz : ¬ Z A)
    (hi : ρ[i]? = some none) (hj : ρ[j]? = some none) (hij : i ≠ j)
    (w : LcW K l Z ρ σ B H A I c H') (hT : H' T = none)
    (hx : ∀ B', Same B B' → ∃ d e, Is K B' x d ∧ Is K B' y e ∧ P d e)
    (hc : c < 100000)
    (he : ∀ d e n acc, P d e → I c n acc → acc.length = c →
      EvC K l te ((ρ.set i (some (.dat d))).set j (some (.dat e))) n
        fun n2 y => I (c + 1) n2 (acc ++ [y])) :
    g2 K i j (.ref T) (wipe σ [i, j]) (upd H' T (.tup [x, y])) fun σ2 H2 =>
      wipe σ2 [i, j] = wipe σ [i, j] ∧ tYes σ2 H2 fun b H3 =>
        if b = true then te σ2 H3 fun y H4 =>
          ∃ acc, H4 A = some (.lst acc) ∧ acc.length < sizeLine ∧
            LcW K l Z ρ σ B H A I (c + 1) (upd H4 A (.lst (acc ++ [y])))
        else LcW K l Z ρ σ B H A I (c + 1) H3 := by
  obtain ⟨n, acc, xs, B', ok, fr, hA, is, hI, hl⟩ := w
  obtain ⟨d, e, hd, he', hP⟩ := hx B' fr.sub
  refine ⟨T, [x, y], rfl, SqT.of upd_same, rfl, x, [y], rfl, y, [], rfl, rfl, ?_⟩
  have e1 : ((wipe σ [i, j]).set i (some x)).set j (some y) =
      (σ.set i (some x)).set j (some y) := by
    show ((((σ.set j none).set i none).set i (some x)).set j (some y)) = _
    rw [List.set_set, List.set_comm _ _ hij, List.set_set, List.set_comm _ _ (Ne.symm hij)]
  have e2 : wipe ((σ.set i (some x)).set j (some y)) [i, j] =
      wipe σ [i, j] := by
    show (((σ.set i (some x)).set j (some y)).set j none).set i none =
      (σ.set j none).set i none
    rw [List.set_set, List.set_comm _ _ hij, List.set_set]
  unfold tYes
  dsimp only
  rw [e1, if_pos rfl]
  refine ⟨e2, ?_⟩
  obtain ⟨okJ, frJ⟩ := ok.junk (o := .tup [x, y]) hT
  have nTA : A ≠ T := fun z => by rw [z, hT] at hA; cases hA
  refine he d e n acc hP hI hl _ B' _ _ _ ((okJ.set hd).set he')
    fun v y2 n2 B2 H2 o2 f2 i2 g2 => ?_
  have hA2 : H2 A = some (.lst xs) := by
    rw [f2.kept A (.inr rfl), upd_ne nTA]
    exact hA
  have hj2 : (ρ.set i (some (.dat d)))[j]? = some none := by
    rw [List.getElem?_set_ne hij]; exact hj
  refine ⟨xs, hA2, ?_, n2, acc ++ [y2], xs ++ [v], B2,
    ((o2.unset hj2).unset hi).write (.inr rfl), ?_, upd_same,
    (is.mono f2.sub).append (.cons i2 .nil), g2, by simp [hl]⟩
  · rw [is.length, hl]
    exact Nat.lt_of_lt_of_le hc (by decide)
  · refine ⟨fr.sub.trans f2.sub, fun z hz' => ?_⟩
    rw [upd_ne (fun (e : z = A) => hz (e ▸ hz'))]
    rw [f2.kept z (.inl hz'), frJ.kept z (.inl hz')]
    exact fr.kept z hz'
/-- [e for a, b in zip(t, u)] of two tuples -/
theorem e_lcZ {i j : Nat} (hi : ρ[i]? = some none) (hj : ρ[j]? = some none)
    (hij : i ≠ j)
    (h : AvC K l tA ρ m fun m1 as => ∃ xs ys, as = [.tup xs, .tup ys] ∧
      xs.length ≤ 50000 ∧ ∃ I : Nat → Nat → List D → Prop, I 0 m1 [] ∧
      (∀ c n acc d e, xs[c]? = some d → ys[c]? = some e → I c n acc →
        acc.length = c →
        EvC K l te ((ρ.set i (some (.dat d))).set j (some (.dat e))) n
          fun n2 y => I (c + 1) n2 (acc ++ [y])) ∧
      ∀ n acc, acc.length = min xs.length ys.length →
        I (min xs.length ys.length) n acc → Φ n (.lst acc)) :
    EvC K l (tLc (iZipA K tA) (g2 K i j) tYes te [i, j]) ρ m Φ := by
  intro Z B H σ Q ok k
  refine h Z B H σ _ ok fun vs as m1 B1 H1 o1 f1 i1 g1 => ?_
  obtain ⟨xs, ys, rfl, hl, I, h0, hs, hd⟩ := g1
  obtain ⟨v, w, rfl, z1, z2⟩ := isAll2 i1
  cases z1 with
  | @tup a us _ hu r1 =>
    cases z2 with
    | @tup b ws _ hw r2 =>
      refine ⟨a, b, us, ws, rfl, .inr ⟨sameT o1.sub hu, sameT o1.sub hw,
        fun A hA => ?_⟩⟩
      have hz : ¬ Z A := fun z => (o1.zs A z).1 hA
      refine lc_it (walk_zipT (xs := us) (ys := ws) rfl)
        (LcW K l Z ρ σ B1 H1 A I) (lcw_start o1 hA h0)
        (fun c H' _ w => ?_) (fun c x H' H'' hc w q => ?_) fun H' w => ?_
      · obtain ⟨n, acc, zs, B', ok', fr', _⟩ := w
        exact ⟨sameT ok'.sub (sameT fr'.sub hu),
          sameT ok'.sub (sameT fr'.sub hw)⟩
      · obtain ⟨T, x1, y1, rfl, hT, rfl, e1, e2⟩ := q
        refine lcw_turn2 (P := fun d e => xs[c]? = some d ∧ ys[c]? = some e)
          hz hi hj hij w hT (fun B' sb => ?_)
          (by rw [r1.length] at hc; omega)
          fun d e n acc p => hs c n acc d e p.1 p.2
        obtain ⟨d, q1, p1⟩ := (r1.mono sb).get e1
        obtain ⟨e, q2, p2⟩ := (r2.mono sb).get e2
        exact ⟨d, e, p1, p2, q1, q2⟩
      · rw [r1.length, r2.length] at w
        exact lcw_end hz w hd fun v d m' B2 H2 o2 f2 i2 g2 =>
          k v d m' B2 H2 o2 (f1.trans f2) i2 g2
/-- for a, b in zip(t, u) of two tuples -/
theorem s_forZ {i j : Nat}
    (h : AvC K l tA ρ m fun m1 as => ∃ xs ys, as = [.tup xs, .tup ys] ∧
      ∃ I : Nat → Nat → Ro → Prop, I 0 m1 ρ ∧
      (∀ c n ρ' d e, xs[c]? = some d → ys[c]? = some e → I c n ρ' →
        SvC K l tb ((ρ'.set i (some (.dat d))).set j (some (.dat e))) n
          (fun n2 ρ2 => I (c + 1) n2 ρ2) Rt) ∧
      ∀ n ρ', I (min xs.length ys.length) n ρ' → Nx n ρ') :
    SvC K l (tFor (iZipA K tA) (g2 K i j) tb) ρ m Nx Rt := by
  intro Z B H σ W ok k jr
  refine h Z B H σ _ ok fun vs as m1 B1 H1 o1 f1 i1 g1 => ?_
  obtain ⟨xs, ys, rfl, I, h0, hs, hd⟩ := g1
  obtain ⟨v, w, rfl, z1, z2⟩ := isAll2 i1
  cases z1 with
  | @tup a us _ hu r1 =>
    cases z2 with
    | @tup b ws _ hw r2 =>
      refine ⟨a, b, us, ws, rfl, .inr ⟨sameT o1.sub hu, sameT o1.sub hw, ?_⟩⟩
      refine for_it (walk_zipT (xs := us) (ys := ws) rfl)
        (fun c σ' H' => ∃ n ρ' B', Ok K l Z n B' H' σ' ρ' ∧
          Fr Z B1 H1 B' H' ∧ I c n ρ')
        ⟨m1, ρ, B1, o1, Fr.refl, h0⟩ (fun c σ' H' _ w => ?_)
        (fun c x σ' H' H'' hc w q => ?_) fun σ' H' w => ?_
      · obtain ⟨n, ρ', B', ok', fr', _⟩ := w
        exact ⟨sameT ok'.sub (sameT fr'.sub hu),
          sameT ok'.sub (sameT fr'.sub hw)⟩
      · obtain ⟨T, x1, y1, rfl, hT, rfl, e1, e2⟩ := q
        obtain ⟨n, ρ', B', ok', fr', hI⟩ := w
        obtain ⟨d, q1, p1⟩ := (r1.mono fr'.sub).get e1
        obtain ⟨e, q2, p2⟩ := (r2.mono fr'.sub).get e2
        obtain ⟨okJ, frJ⟩ := ok'.junk (o := .tup [x1, y1]) hT
        refine ⟨T, [x1, y1], rfl, SqT.of upd_same, rfl, x1, [y1], rfl, y1, [],
          rfl, rfl, ?_⟩
        refine hs c n ρ' d e q1 q2 hI Z B' _ _ _ ((okJ.set p1).set p2)
          (fun σ2 ρ2 m2 B2 H2 o2 f2 g2 =>
            ⟨m2, ρ2, B2, o2, (fr'.trans frJ).trans f2, g2⟩)
          fun v d m2 B2 H2 o2 f2 i2 g2 => ?_
        exact jr v d m2 B2 H2 o2 ((f1.trans (fr'.trans frJ)).trans f2) i2 g2
      · obtain ⟨n, ρ', B', ok', fr', hI⟩ := w
        rw [r1.length, r2.length] at hI
        exact k σ' ρ' n B' H' ok' (f1.trans fr') (hd n ρ' hI)
/-! ### two clauses: a list, then a range -/
def LcV (K : PySem.W.Frag) (l : Option Addr) (Z : Addr → Prop) (ρ : Ro)
    (σ : L2.St) (B H : Hp) (A : Addr) (I : Nat → List D → Prop)
    (H' : Hp) : Prop :=
  ∃ n acc xs B', Ok K l (fun a => Z a ∨ a = A) n B' H' σ ρ ∧
    Fr Z B H B' H' ∧ H' A = some (.lst xs) ∧ IsAll K B' xs acc ∧ I n acc
theorem e_lcLR {i j : Nat} (hi : ρ[i]? = some none) (hj : ρ[j]? = some none)
    (hij : i ≠ j)
    (h : EvC K l tl ρ m fun m1 x => ∃ ds, x = .lst ds ∧
      ∃ I : Nat → Nat → List D → Prop, I 0 m1 [] ∧
      (∀ c n acc d, ds[c]? = some d → I c n acc →
        AvC K l tA (ρ.set i (some (.dat d))) n fun n1 as =>
          ∃ r : Int, as = [.int r] ∧ r < 2 ^ 62 ∧ -(2 ^ 62) ≤ r ∧
          ∃ J : Nat → Nat → List D → Prop, J 0 n1 acc ∧
          (∀ (t n : Nat) acc, t < r.toNat → J t n acc →
            acc.length < 100000 ∧
            EvC K l te ((ρ.set i (some (.dat d))).set j
              (some (.dat (.int t)))) n fun n2 y => J (t + 1) n2 (acc ++ [y])) ∧
          ∀ n acc, J r.toNat n acc → I (c + 1) n acc) ∧
      ∀ n acc, I ds.length n acc → Φ n (.lst acc)) :
    EvC K l (tLc2 (iList K tl) (gName i) tYes (iRng1 tA) (gName j) tYes te
      [i, j] [j]) ρ m Φ := by
  intro Z B H σ Q ok k
  refine h Z B H σ _ ok fun v x m1 B1 H1 o1 f1 i1 g1 => ?_
  obtain ⟨ds, rfl, I, h0, hs, hd⟩ := g1
  cases i1 with
  | @lst a us _ hu r1 =>
    have hlen := r1.length
    refine ⟨a, rfl, ⟨us, SqL.of (o1.sub _ _ hu)⟩, fun A hA => ?_⟩
    have hz : ¬ Z A := fun z => (o1.zs A z).1 hA
    refine ⟨fun c m H' => m = us.length - c ∧ c ≤ us.length ∧
      LcV K l Z ρ σ B1 H1 A (I c) H', ⟨us.length, rfl, Nat.zero_le _, m1, [], [],
        B1, o1.aside hA, ⟨Same.refl B1, fun z q => upd_ne fun e =>
          hz (e ▸ q)⟩, upd_same, .nil, h0⟩, ?_⟩
    rintro c mm H' ⟨rfl, hc, w⟩
    obtain ⟨n, acc, xs, B', ok', fr', hA', is', hI⟩ := w
    have hL : SqL K H' a us := SqL.of (ok'.sub _ _ (fr'.sub _ _ hu))
    by_cases hlt : c < us.length
    · refine .inr ⟨⟨us, us[c], hL, by simp [hlt]⟩,
        fun H2 => LcV K l Z ρ σ B1 H1 A (I (c + 1)) H2,
        fun H2 q => ⟨us.length - (c + 1), by omega, rfl, hlt, q⟩,
        fun x H2 y => ?_⟩
      obtain ⟨rfl, y⟩ := y
      have ex := y us hL
      obtain ⟨d, e2, pd⟩ := (r1.mono fr'.sub).get ex
      have e1 : (wipe σ [i, j]).set i (some x) =
          (σ.set j none).set i (some x) := by
        show ((σ.set j none).set i none).set i (some x) = _
        rw [List.set_set]
      have ew : wipe ((σ.set j none).set i (some x)) [i, j] =
          wipe σ [i, j] := by
        show (((σ.set j none).set i (some x)).set j none).set i none =
          (σ.set j none).set i none
        rw [List.set_comm _ _ hij, List.set_set, List.set_set]
      unfold gName tYes
      dsimp only
      rw [e1, if_pos rfl]
      refine ⟨ew, ?_⟩
      have okI : Ok K l (fun a => Z a ∨ a = A) n B' H2
          ((σ.set j none).set i (some x)) (ρ.set i (some (.dat d))) :=
        (ok'.any hj).set pd
      refine hs c n acc d e2 hI _ B' H2 _ _ okI
        fun vs as n1 B3 H3 o3 f3 i3 g3 => ?_
      obtain ⟨r, rfl, hr1, hr2, J, j0, js, jd⟩ := g3
      obtain ⟨v3, rfl, z3⟩ := isAll1 i3
      cases z3
      refine ⟨r, rfl, hr2, hr1, ?_⟩
      have fr3 : Fr Z B1 H1 B3 H3 := fr'.trans (f3.weak fun z q => .inl q)
      have hj2 : (ρ.set i (some (.dat d)))[j]? = some none := by
        rw [List.getElem?_set_ne hij]; exact hj
      have out : ∀ {nn B4 H4}, Ok K l (fun a => Z a ∨ a = A) nn B4 H4
          ((σ.set j none).set i (some x)) (ρ.set i (some (.dat d))) →
          Ok K l (fun a => Z a ∨ a = A) nn B4 H4 σ ρ := fun o =>
        (o.unset hi).back hj
      refine ⟨fun t kk H4 => kk = r.toNat - t ∧ t ≤ r.toNat ∧
        LcV K l Z ρ σ B1 H1 A (J t) H4, ⟨r.toNat, rfl, Nat.zero_le _, n1, acc,
        xs, B3, out o3, fr3, (f3.kept A (.inr rfl)).trans hA',
        is'.mono f3.sub, j0⟩, ?_⟩
      rintro t kk H4 ⟨rfl, ht, w4⟩
      by_cases hlt2 : t < r.toNat
      · refine .inr ⟨hlt2, fun H5 => LcV K l Z ρ σ B1 H1 A (J (t + 1)) H5,
          fun H5 q => ⟨r.toNat - (t + 1), by omega, rfl, hlt2, q⟩,
          fun x5 H5 y5 => ?_⟩
        obtain ⟨rfl, rfl⟩ := y5
        obtain ⟨n4, acc4, xs4, B4, ok4, fr4, hA4, is4, hJ⟩ := w4
        have e0 : (0 : Int) + (t : Int) = (t : Int) := Int.zero_add _
        have e3 : (wipe ((σ.set j none).set i (some x)) [j]).set j
            (some (.int t)) =
            ((σ.set j none).set i (some x)).set j (some (.int t)) := by
          show ((((σ.set j none).set i (some x)).set j none).set j _) = _
          rw [List.set_set]
        rw [e0, e3, if_pos rfl]
        refine ⟨?_, ?_⟩
        · show (((σ.set j none).set i (some x)).set j _).set j none =
            ((σ.set j none).set i (some x)).set j none
          rw [List.set_set]
        · obtain ⟨hlen4, hev⟩ := js t n4 acc4 hlt2 hJ
          have pd4 : Is K B4 x d := by
            obtain ⟨d', e2', pd'⟩ := (r1.mono fr4.sub).get ex
            rw [e2] at e2'
            cases e2'
            exact pd'
          refine hev _ B4 H5 _ _ (((ok4.any hj).set pd4).set (.int t))
            fun v y n6 B6 H6 o6 f6 i6 g6 => ?_
          have hA6 : H6 A = some (.lst xs4) := (f6.kept A (.inr rfl)).trans hA4
          refine ⟨xs4, hA6, ?_, n6, acc4 ++ [y], xs4 ++ [v], B6,
            (out (o6.unset hj2)).write (.inr rfl), ?_, upd_same,
            (is4.mono f6.sub).append (.cons i6 .nil), g6⟩
          · rw [is4.length]
            exact Nat.lt_of_lt_of_le hlen4 (by decide)
          · refine ⟨fr4.sub.trans f6.sub, fun z hz' => ?_⟩
            rw [upd_ne (fun (e : z = A) => hz (e ▸ hz'))]
            exact (f6.kept z (.inl hz')).trans (fr4.kept z hz')
      · have et : t = r.toNat := by omega
        subst et
        refine .inl ⟨Nat.le_refl _, ?_⟩
        obtain ⟨n4, acc4, xs4, B4, ok4, fr4, hA4, is4, hJ⟩ := w4
        exact ⟨n4, acc4, xs4, B4, ok4, fr4, hA4, is4, jd n4 acc4 hJ⟩
    · have ec : c = us.length := by omega
      subst ec
      refine .inl ⟨⟨us, hL, Nat.le_refl _⟩, ?_⟩
      have z2 := (ok'.zs A (.inr rfl)).2.1
      rw [hlen] at hI
      exact k _ _ n _ _ (ok'.thaw hA' hz)
        (f1.trans ⟨fr'.sub.trans (same_new z2), fr'.kept⟩)
        (.lst upd_same (is'.mono (same_new z2))) (hd n acc hI)
end
end Wt

/-! A tuple turned about: t[::-1]. -/
namespace Wt
open PySem PySem.Spec PyProof.Rows L2 HT
section
variable {prog : Program} {w : World} {A : Around}
variable {E : Value → Shared → Prop} {s : Shared}
theorem pick_rev (xs : Array Value) :
    ((List.range xs.size).filterMap fun (k : Nat) =>
      xs[(((xs.size : Int) - 1) + (k : Int) * (-1)).toNat]?).toArray =
    xs.toList.reverse.toArray := by
  congr 1
  have e : (fun (k : Nat) =>
      xs[(((xs.size : Int) - 1) + (k : Int) * (-1)).toNat]?) =
      (fun i => xs[i]?) ∘ fun k => xs.size - 1 - k := by
    funext k
    have h1 : (((xs.size : Int) - 1) + (k : Int) * (-1)).toNat =
        xs.size - 1 - k := by omega
    rw [h1]
    rfl
  rw [e, ← List.filterMap_map, PySem.W.krv_range, List.filterMap_reverse,
    PySem.W.krv_all]
theorem sliceApplied_rev {sl : Addr} {vl vu vs : Value} {n : Nat}
    {Q : Int × Int × Nat → Shared → Prop}
    (hs : s.heap.IsSliceOf sl vl vu vs) (pl : IsPart vl none)
    (pu : IsPart vu none) (ps : IsPart vs (some (-1)))
    (h : Q ((n : Int) - 1, -1, n) s) :
    wpAny (model prog w) A
      (Builtin.Slice.sliceApplied (.ref sl) (pure (n : Int))) Q E s := by
  obtain ⟨os, hos, hcs, hds⟩ := id hs
  unfold Builtin.Slice.sliceApplied Builtin.Slice.sliceFields
  refine wpAny_bind (wpAny_bind (wpAny_field hos hds (x := vl) rfl
    (wpAny_bind (wpAny_field hos hds (x := vu) rfl (wpAny_bind
      (wpAny_field hos hds (x := vs) rfl (wpAny_pure ?_)))))))
  refine wpAny_bind (slicePart_ ps ?_)
  show wpAny _ _ (if ((-1 : Int) == 0) = true then _ else _) _ _ s
  rw [if_neg (by decide)]
  refine wpAny_bind (slicePart_ pl (wpAny_bind (slicePart_ pu
    (wpAny_bind (wpAny_pure ?_)))))
  have ea : Builtin.Slice.sliceAdjust none none (-1) (n : Int) =
      ((n : Int) - 1, -1) := by
    unfold Builtin.Slice.sliceAdjust
    simp
  have ep : Builtin.Slice.slicePlaces ((n : Int) - 1) (-1) (-1) = n := by
    unfold Builtin.Slice.slicePlaces
    simp
    omega
  show wpAny _ _ (match Builtin.Slice.sliceAdjust none none (-1) (n : Int) with | (lo, hi) => pure (lo, (-1 : Int), Builtin.Slice.slicePlaces lo hi (-1))) _ _ s
  rw [ea]
  show wpAny _ _ (pure ((n : Int) - 1, (-1 : Int), Builtin.Slice.slicePlaces ((n : Int) - 1) (-1) (-1))) _ _ s
  rw [ep]
  exact wpAny_pure h
theorem getItem_tuple_rev {t sl : Addr} {items : Array Value}
    {vl vu vs : Value} {Q : Value → Shared → Prop}
    (ht : IsTup s.heap t items) (hs : s.heap.IsSliceOf sl vl vu vs)
    (pl : IsPart vl none) (pu : IsPart vu none) (ps : IsPart vs (some (-1)))
    (h : Q (.ref s.heap.objs.size) { s with heap := s.heap.push { cls := .type "tuple", data := .seq items.toList.reverse.toArray } })
    (hsz : items.size ≤ sizeLine) :
    wpAny (model prog w) A (getItem (.ref t) (.ref sl)) Q E s := by
  have hk : sizeOk (.seq items.toList.reverse.toArray) := by
    show items.toList.reverse.toArray.size ≤ sizeLine
    simpa using hsz
  obtain ⟨os, hos, hcs, hds⟩ := id hs
  have hTs : s.TypeIs (.ref sl) "slice" := ⟨os, hos, hcs⟩
  unfold getItem
  try with_reducible refine wpAny_holding ?_
  first | refine wpAny_bind (wpAny_pure ?_) | skip
  refine wpAny_bind (wpAny_sequenceKey ht.typeIs (by decide) ?_)
  refine wpAny_bind (wpAny_callSpecial?_slot
    (name := Str.ofString "__getitem__") ht.typeIs
    PyProof.Rows.slot_tuple_getitem (wpAny_call_entry
      PyProof.Rows.slot_tuple_getitem ht.typeIs entry_tuple_getitem ?_
      (args_tuple_getitem _ _)))
  show wpAny _ _ (Builtin.Tuple.tupleItemsOf (.ref t) >>= _) _ _ s
  refine wpAny_bind (tupleItemsOf_ ht ?_)
  refine wpAny_bind (wpAny_typeOf hTs ?_)
  rw [if_pos (by decide)]
  refine wpAny_bind (sliceApplied_rev hs pl pu ps ?_)
  have hno : ¬ ((((items.size : Int) - 1) == 0 && (-1 : Int) == 1 && items.size == items.size) = true) := by
    intro q
    rw [Bool.and_eq_true, Bool.and_eq_true] at q
    exact absurd q.1.2 (by decide)
  show wpAny _ _ (if (((items.size : Int) - 1) == 0 && (-1 : Int) == 1 && items.size == items.size) = true then _ else _) _ _ s
  rw [if_neg hno, pick_rev]
  first
    | exact wpAny_bind (m := Builtin.Tuple.tupleExact _) (wpAny_newObj_type (wpAny_pure ⟨_, rfl, wpAny_pure h⟩) hk)
    | exact wpAny_bind (m := Builtin.Tuple.tupleExact _) (wpAny_newObj_type (wpAny_bind (wpAny_pure (wpAny_pure ⟨_, rfl, wpAny_pure h⟩))) hk)
    | exact wpAny_bind (wpAny_bind (m := Builtin.Tuple.tupleExact _) (wpAny_newObj_type (wpAny_pure (wpAny_pure ⟨_, rfl, wpAny_pure h⟩)) hk))
    | exact wpAny_bind (wpAny_bind (m := Builtin.Tuple.tupleExact _) (wpAny_newObj_type (wpAny_pure ⟨_, rfl, wpAny_pure h⟩) hk))
end
def tRevT (K : PySem.W.Frag) (te : TE) : TE := fun σ H Q =>
  te σ H fun x H1 => ∃ a xs, x = .ref a ∧ SqT K H1 a xs ∧
    NewT H1 xs.reverse Q
section
variable {X : Cx}
theorem pe_revT {e : Expr} {te : TE} {k : Nat} {p1 p2 p3 pos : Pos}
    (he : PE X e te) : PE X (.Subscript e (.Slice none none (some
      (.UnaryOp .USub (.Constant (.int 1) k p1) p2)) p3) pos)
      (tRevT X.K te) := by
  refine ⟨fun pins s σ H Q I h => ?_⟩
  refine Subscript_ (thn (he.run pins s σ H _ I h) fun v s1 ⟨x, H1, I1, r1, q1⟩ => ?_)
  obtain ⟨a, xs, ex, hx, q⟩ := q1
  subst ex
  cases r1
  have hst : PO X (some (.UnaryOp .USub (.Constant (.int 1) k p1) p2))
      (tPart (tUn (rU fun i => .int (-i)) (tC (.int 1)))) :=
    po_some (pe_un un_neg pe_int)
  refine wpAny_Slice (thn (po_none.run pins s1 σ H1
    (fun o H2 => o = none ∧ H2 = H1) I1 ⟨rfl, rfl⟩)
    fun vl s2 ⟨l, H2, I2, pl, el, e2⟩ => ?_)
  subst el e2
  refine thn (po_none.run pins s2 σ H2 (fun o H3 => o = none ∧ H3 = H2)
    I2 ⟨rfl, rfl⟩) fun vu s3 ⟨u, H3, I3, pu, eu, e3⟩ => ?_
  subst eu e3
  refine thn (hst.run pins s3 σ H3 (fun o H4 => o = some (-1) ∧ H4 = H3)
    I3 ⟨1, rfl, -1, rfl, rfl, rfl⟩) fun vs s4 ⟨o, H4, I4, ps, eo, e4⟩ => ?_
  subst eo e4
  have I5 : Inv X pins σ H4 { s4 with heap := s4.heap.push { cls := .type "slice", data := .fields #[vl, vu, vs] } } :=
    I4.kept (t' := s4.toks) fun b ob q => Heap.get?_push_of_some _ q
  obtain ⟨its, r, ht, hz⟩ := I5.tuple hx
  have hlen := r.length
  refine tail_any (ops := [.ref a, .ref s4.heap.objs.size]) ht.typeIs
    (PyProof.Rows.slot_tuple_getitem.lookup) ?_ (by with_unfolding_all rfl)
  refine getItem_tuple_rev ht (Heap.IsSliceOf.new _ vl vu vs) pl pu ps ?_
    (by rw [List.size_toArray]; omega)
  exact ep_newT (tk := s4.toks) I5 (by rw [List.length_reverse]; exact hz)
    r.reverse q
theorem pe_revTK {K : PySem.W.Frag} {e : Expr} {te : TE} {k : Nat}
    {p1 p2 p3 pos : Pos} (hK : X.K = K) (he : PE X e te) :
    PE X (.Subscript e (.Slice none none (some
      (.UnaryOp .USub (.Constant (.int 1) k p1) p2)) p3) pos)
      (tRevT K te) := by
  subst hK
  exact pe_revT he
end
section
variable {K : PySem.W.Frag} {l : Option Addr} {ρ : Ro} {m : Nat}
variable {Φ : Nat → D → Prop} {te : TE} {B : Hp}
theorem IsAll.reverse : ∀ {vs : List V} {ds : List D}, IsAll K B vs ds →
    IsAll K B vs.reverse ds.reverse
  | _, _, .nil => .nil
  | _, _, .cons h r => by
    rw [List.reverse_cons, List.reverse_cons]
    exact (IsAll.reverse r).append (.cons h .nil)
theorem e_revT (h : EvC K l te ρ m fun m1 x => ∃ ds, x = .tup ds ∧
      Φ m1 (.tup ds.reverse)) : EvC K l (tRevT K te) ρ m Φ := by
  intro Z B H σ Q ok k
  refine h Z B H σ _ ok fun v x m1 B1 H1 o1 f1 i1 g1 => ?_
  obtain ⟨ds, rfl, q⟩ := g1
  cases i1 with
  | @tup a us _ hu r =>
    refine ⟨a, us, rfl, sameT o1.sub hu, fun p ob hp hd _ => ?_⟩
    obtain ⟨o2, f2⟩ := o1.new (o := .frz ob (.tup us.reverse)) hp
    exact k _ _ m1 _ _ o2 (f1.trans f2) (.newT upd_same hd
      (r.mono f2.sub).reverse) q
end
end Wt

/-! zip of three tuples; while; texts of one figure read as numbers. -/
namespace Wt
open PySem PySem.Spec PyProof.Rows L2
/-- the tuples at a, b, c, an item of each in a new triple -/
def ItZ3 (K : PySem.W.Frag) (a b c : Addr) : It where
  go := fun i H => ∃ xs ys zs : List V, SqT K H a xs ∧ SqT K H b ys ∧
    SqT K H c zs ∧ i < min (min xs.length ys.length) zs.length
  yld := fun i H v H' => ∃ T x y z, v = .ref T ∧ H T = none ∧
    H' = upd H T (.tup [x, y, z]) ∧ (∀ xs, SqT K H a xs → xs[i]? = some x) ∧
    (∀ ys, SqT K H b ys → ys[i]? = some y) ∧
    ∀ zs, SqT K H c zs → zs[i]? = some z
  stop := fun i H => ∃ xs ys zs : List V, SqT K H a xs ∧ SqT K H b ys ∧
    SqT K H c zs ∧ i = min (min xs.length ys.length) zs.length
theorem sep3 {n a b c : Nat} (ha : a < n) (hb : b < n) (hc : c < n) :
    ZipSep3 (n + 5) (n + 3) (n + 4) n (n + 1) (n + 2) [n, a] [n + 1, b]
      [n + 2, c] := by
  constructor <;> first
    | exact List.mem_cons_self
    | (intro z; have z : (_ : Nat) = _ := z; omega)
    | (intro z; simp only [List.mem_cons, List.not_mem_nil, or_false] at z
       rcases z with z | z <;> (have z : (_ : Nat) = _ := z; omega))
abbrev y3 (xs ys zs : Array Value) (i : Nat) (h0 : Heap) (v : Value)
    (h : Heap) : Prop := ∃ T x y u, v = .ref T ∧ h0.objs.size ≤ T ∧
  xs[i]? = some x ∧ ys[i]? = some y ∧ zs[i]? = some u ∧
  h.IsTuple T #[x, y, u]
abbrev st3 (n a b c : Nat) (xs ys zs : Array Value) (i : Nat) (h : Heap) :
    Prop := IsZip h (n + 5) (n + 3) (n + 4) .none ∧
  IsTupOf3 h (n + 3) (.ref n) (.ref (n + 1)) (.ref (n + 2)) ∧
  (∃ a1 a2 a3, IsTupOf3 h (n + 4) a1 a2 a3) ∧
  (h.IsTupleIter n a i ∧ h.IsTuple a xs) ∧
  (h.IsTupleIter (n + 1) b i ∧ h.IsTuple b ys) ∧
  (h.IsTupleIter (n + 2) c i ∧ h.IsTuple c zs)
theorem goes3 {prog : Program} {w : World} {A : Around} {elts : List Expr}
    {k : Nat} {pos : Pos} {n a b c : Nat} (hh : A.handled = none)
    (ha : a < n) (hb : b < n) (hc : c < n) (xs ys zs : Array Value) :
    GoesN prog w A (.Tuple elts k pos) (n + 5)
      ((n + 5) :: (n + 3) :: (n + 4) :: ([n, a] ++ [n + 1, b] ++ [n + 2, c]))
      [n + 5, n + 4, n, n + 1, n + 2]
      (min (min xs.size ys.size) zs.size) (y3 xs ys zs) (st3 n a b c xs ys zs) :=
  GoesN.zip3 (sep3 ha hb hc)
    (Draws.tuple (A := A.in1) hh n a (Nat.ne_of_lt ha) xs)
    (Draws.tuple (A := A.in1) hh (n + 1) b (Nat.ne_of_lt (Nat.lt_succ_of_lt hb)) ys)
    (Draws.tuple (A := A.in1) hh (n + 2) c (Nat.ne_of_lt (Nat.lt_succ_of_lt (Nat.lt_succ_of_lt hc))) zs)
def tn3 (n a b c i : Nat) (h : Heap) : Prop :=
  IsZip h (n + 5) (n + 3) (n + 4) .none ∧
  IsTupOf3 h (n + 3) (.ref n) (.ref (n + 1)) (.ref (n + 2)) ∧
  (∃ a1 a2 a3, IsTupOf3 h (n + 4) a1 a2 a3) ∧ h.IsTupleIter n a i ∧
  h.IsTupleIter (n + 1) b i ∧ h.IsTupleIter (n + 2) c i
theorem turn3 {P : Program} {w : World} {K : PySem.W.Frag}
    {elts : List Expr} {kk : Nat} {tpos : Pos} {n a b c : Nat}
    (ha : a < n) (hb : b < n) (hc : c < n) :
    Turn P w K (.Tuple elts kk tpos) (ItZ3 K a b c)
      [n + 5, n + 3, n + 4, n, n + 1, n + 2] (n + 5) (tn3 n a b c) where
  mem := List.mem_cons_self
  obj := fun i h st x hx => by
    obtain ⟨hz, hI, ⟨a1, a2, a3, hO⟩, ⟨o1, e1, _, d1⟩, ⟨o2, e2, _, d2⟩,
      o3, e3, _, d3⟩ := st
    simp only [List.mem_cons, List.not_mem_nil, or_false] at hx
    rcases hx with rfl | rfl | rfl | rfl | rfl | rfl
    · exact ⟨_, hz, nofun⟩
    · exact ⟨_, hI, nofun⟩
    · exact ⟨_, hO, nofun⟩
    · exact ⟨o1, e1, fun v q => by rw [d1] at q; cases q⟩
    · exact ⟨o2, e2, fun v q => by rw [d2] at q; cases q⟩
    · exact ⟨o3, e3, fun v q => by rw [d3] at q; cases q⟩
  keep := fun i h h' st k => by
    obtain ⟨hz, hI, ⟨a1, a2, a3, hO⟩, h1, h2, h3⟩ := st
    exact ⟨k _ (by simp) _ hz, k _ (by simp) _ hI,
      ⟨a1, a2, a3, k _ (by simp) _ hO⟩,
      h1.at fun o q => k n (by simp) o q,
      h2.at fun o q => k (n + 1) (by simp) o q,
      h3.at fun o q => k (n + 2) (by simp) o q⟩
  item := by
    intro X hP hw hK hcl i pins s σ H E I hf st hg
    subst hP hw hK
    obtain ⟨hz, hI, hO, h1, h2, h3⟩ := id st
    obtain ⟨xs, ys, zs, q1, q2, q3, hi⟩ := hg
    obtain ⟨its1, r1, p1, _⟩ := I.tuple q1
    obtain ⟨its2, r2, p2, _⟩ := I.tuple q2
    obtain ⟨its3, r3, p3, _⟩ := I.tuple q3
    have l1 := r1.length
    have l2 := r2.length
    have l3 := r3.length
    have lt : ∀ d ∈ [n + 5, n + 3, n + 4, n, n + 1, n + 2],
        d < s.heap.objs.size := by
      intro d hd
      obtain ⟨a1, a2, a3, hO⟩ := hO
      obtain ⟨o1, e1, _⟩ := h1
      obtain ⟨o2, e2, _⟩ := h2
      obtain ⟨o3, e3, _⟩ := h3
      simp only [List.mem_cons, List.not_mem_nil, or_false] at hd
      rcases hd with rfl | rfl | rfl | rfl | rfl | rfl
      · exact Heap.lt_size hz
      · exact Heap.lt_size hI
      · exact Heap.lt_size hO
      · exact Heap.lt_size e1
      · exact Heap.lt_size e2
      · exact Heap.lt_size e3
    refine (goes3 (I.ok.hd hcl) ha hb hc its1.toArray its2.toArray
      its3.toArray).goes i s _ E (by simp only [List.size_toArray]; omega)
      ⟨hz, hI, hO, ⟨h1, p1⟩, ⟨h2, p2⟩, ⟨h3, p3⟩⟩
      fun v h' tk hY st' hk htk => ?_
    obtain ⟨T, x, y, u, rfl, hT, e1, e2, e3, hTu⟩ := hY
    obtain ⟨vx, ex⟩ : ∃ vx, xs[i]? = some vx :=
      ⟨xs[i]'(by omega), List.getElem?_eq_getElem _⟩
    obtain ⟨vy, ey⟩ : ∃ vy, ys[i]? = some vy :=
      ⟨ys[i]'(by omega), List.getElem?_eq_getElem _⟩
    obtain ⟨vz, ez⟩ : ∃ vz, zs[i]? = some vz :=
      ⟨zs[i]'(by omega), List.getElem?_eq_getElem _⟩
    obtain ⟨u1, g1, k1⟩ := r1.get ex
    obtain ⟨u2, g2, k2⟩ := r2.get ey
    obtain ⟨u3, g3, k3⟩ := r3.get ez
    rw [List.getElem?_toArray] at e1 e2 e3
    rw [g1] at e1
    rw [g2] at e2
    rw [g3] at e3
    cases e1
    cases e2
    cases e3
    have new : ObjOk X.prog X.w (upd H T (.tup [vx, vy, vz])) h' T
        (.tup [vx, vy, vz]) :=
      ⟨by show 3 ≤ sizeLine; decide, [x, y, u],
        .cons k1 (.cons k2 (.cons k3 .nil)), hTu⟩
    have I1 := I.turnedNew (t' := tk)
      (ch := [n + 5, n + 3, n + 4, n, n + 1, n + 2])
      (fun d o hd q => hk d o (fun z => hd (by
        simp only [List.mem_cons, List.not_mem_nil, or_false] at z ⊢
        rcases z with z | z | z | z | z <;> simp [z])) q) hf hT new
    obtain ⟨z1, z2, z3, z4, z5, z6⟩ := st'
    refine ⟨.ref T, _, I1, rfl, ⟨T, vx, vy, vz, rfl, I.hok.fresh hT, rfl,
      fun l hl => ?_, fun l hl => ?_, fun l hl => ?_⟩,
      ⟨z1, z2, z3, z4.1, z5.1, z6.1⟩, fun d hd => ?_⟩
    · rw [I.tuple_inj hl q1]; exact ex
    · rw [I.tuple_inj hl q2]; exact ey
    · rw [I.tuple_inj hl q3]; exact ez
    · have := lt d hd
      rw [upd_ne (fun (z : d = T) => Nat.lt_irrefl d (Nat.lt_of_lt_of_le this (z ▸ hT)))]
      exact (hf d hd).1
  done := by
    intro X hP hw hK hcl i pins s σ H E I hf st hg
    subst hP hw hK
    obtain ⟨hz, hI, hO, h1, h2, h3⟩ := st
    obtain ⟨xs, ys, zs, q1, q2, q3, hi⟩ := hg
    obtain ⟨its1, r1, p1, _⟩ := I.tuple q1
    obtain ⟨its2, r2, p2, _⟩ := I.tuple q2
    obtain ⟨its3, r3, p3, _⟩ := I.tuple q3
    have e : min (min its1.toArray.size its2.toArray.size)
        its3.toArray.size = i := by
      have l1 := r1.length
      have l2 := r2.length
      have l3 := r3.length
      simp only [List.size_toArray]
      omega
    refine (goes3 (prog := X.prog) (w := X.w) (elts := elts) (k := kk)
      (pos := tpos) (I.ok.hd hcl) ha hb hc its1.toArray its2.toArray
      its3.toArray).stops s _ E (by
        rw [e]
        exact ⟨hz, hI, hO, ⟨h1, p1⟩, ⟨h2, p2⟩, ⟨h3, p3⟩⟩)
      fun h' tk hk htk => ?_
    exact I.turnedL (t' := tk)
      (ch := [n + 5, n + 3, n + 4, n, n + 1, n + 2])
      (fun d o hd q => hk d o (fun z => hd (by
        simp only [List.mem_cons, List.not_mem_nil, or_false] at z ⊢
        rcases z with z | z | z | z | z <;> simp [z])) q) hf
  self := fun A i s Q E st h => wpAny_pyIter_zip st.1 h
def iZip3 (K : PySem.W.Frag) (ta : TA) : TI := fun σ H R =>
  ta σ H fun vs H1 => ∃ a b c xs ys zs, vs = [.ref a, .ref b, .ref c] ∧
    SqT K H1 a xs ∧ SqT K H1 b ys ∧ SqT K H1 c zs ∧ R (ItZ3 K a b c) H1
theorem pi_zip3 {X : Cx} {e1 e2 e3 : Expr} {ta : TA} {p pos tpos : Pos}
    {elts : List Expr} {kk : Nat} (hg : Gl X "zip")
    (hm : X.mg "zip" = none) (ha : PA X [e1, e2, e3] ta)
    (hs : starEach [e1, e2, e3] X.env =
      (false, eval e1 X.env) :: starEach [e2, e3] X.env := by rfl)
    (hpl : (backTo pos (starEach [e2, e3] X.env)).any (·.1) = false := by rfl) :
    PI X (.Tuple elts kk tpos) (.Call (.Name "zip" p) [e1, e2, e3] [] pos)
      (iZip3 X.K ta) := by
  refine ⟨fun pins s σ H R I h => ?_⟩
  refine Call_ (ld_blt I hg hm PyProof.Rows.boot_zip
    (PyProof.Rows.callWith_type1 (thn (ha.run pos pins s σ H _ I h)
      fun us s1 ⟨vs, H1, I1, r1, q1⟩ => ?_) hs hpl))
  obtain ⟨a, b, c, xs, ys, zs, rfl, t1, t2, t3, q⟩ := q1
  obtain ⟨its1, _, p1, _⟩ := I1.tuple t1
  obtain ⟨its2, _, p2, _⟩ := I1.tuple t2
  obtain ⟨its3, _, p3, _⟩ := I1.tuple t3
  have la : a < s1.heap.objs.size := let ⟨_, z, _⟩ := p1; Heap.lt_size z
  have lb : b < s1.heap.objs.size := let ⟨_, z, _⟩ := p2; Heap.lt_size z
  have lc : c < s1.heap.objs.size := let ⟨_, z, _⟩ := p3; Heap.lt_size z
  cases r1 with
  | cons k1 r1 =>
    cases r1 with
    | cons k2 r1 =>
      cases r1 with
      | cons k3 r1 =>
        cases r1
        cases k1
        cases k2
        cases k3
        refine zip_begins3 (begins_tuple a its1.toArray)
          (begins_tuple b its2.toArray) (begins_tuple c its3.toArray)
          p1 p2 p3 fun h' hz hI hO g1 g2 g3 hsz hk =>
          wpAny_pyIter_zip hz ?_
        have I2 : Inv X pins σ H1 { s1 with heap := h' } :=
          I1.kept (t' := s1.toks) hk
        refine ⟨s1.heap.objs.size + 5, _, _, _, H1, rfl, I2,
          turn3 la lb lc, ⟨hz, hI, ⟨_, _, _, hO⟩, ⟨_, g1, rfl, rfl⟩,
            ⟨_, g2, rfl, rfl⟩, ⟨_, g3, rfl, rfl⟩⟩, fun d hd => ?_, q⟩
        have hle : s1.heap.objs.size ≤ d := by
          simp only [List.mem_cons, List.not_mem_nil, or_false] at hd
          rcases hd with z | z | z | z | z | z <;>
            (have z : (_ : Nat) = _ := z; omega)
        exact I1.fpOk hle (I1.hok.fresh hle)
theorem walk_zip3 {K : PySem.W.Frag} {a b c : Addr} {xs ys zs : List V}
    {n : Nat} (hn : n = min (min xs.length ys.length) zs.length) :
    Walk (ItZ3 K a b c) n
      (fun H => SqT K H a xs ∧ SqT K H b ys ∧ SqT K H c zs)
      fun i H v H' => ∃ T x y z, v = .ref T ∧ H T = none ∧
        H' = upd H T (.tup [x, y, z]) ∧ xs[i]? = some x ∧ ys[i]? = some y ∧
        zs[i]? = some z := by
  refine ⟨fun i H hi h => ⟨xs, ys, zs, h.1, h.2.1, h.2.2, by omega⟩,
    fun H h => ⟨xs, ys, zs, h.1, h.2.1, h.2.2, hn⟩, fun i H x H' hi h q => ?_⟩
  obtain ⟨T, x1, y1, z1, rfl, hT, rfl, e1, e2, e3⟩ := q
  exact ⟨T, x1, y1, z1, rfl, hT, rfl, e1 _ h.1, e2 _ h.2.1, e3 _ h.2.2⟩
section
variable {X : Cx}
def rMulS : R2 := fun x y H Q => ∃ a n, x = .str a ∧ y = .int n ∧
  MulOk a n ∧ Q (.str (Txt.mul a n)) H
theorem op_mulS : OpR X (binaryOp .Mult) rMulS := by
  intro pins s σ H x y v u Q I rx ry h
  obtain ⟨a, n, rfl, rfl, hz, q⟩ := h
  obtain ⟨t, rfl⟩ := rx
  obtain ⟨t', rfl⟩ := ry
  exact SB.mul hz fun t' tk => ⟨.str (Txt.mul a n), H, I.tok _, ⟨_, rfl⟩, q⟩
end
/-! figures -/
def nines (n : Nat) : Str := ⟨(List.replicate n 57).toArray⟩
theorem fold_nines : ∀ (n : Nat) (a : Array Nat),
    (List.replicate n #[57]).foldl (· ++ ·) a =
      a ++ (List.replicate n 57).toArray
  | 0, a => by simp
  | n + 1, a => by
    rw [List.replicate_succ, List.foldl_cons, fold_nines n,
      List.replicate_succ]
    apply Array.ext'
    simp
theorem nine_is : (("9" : Str)).cps = #[57] := by decide +kernel
theorem mul_nines {n : Nat} (h : 1 ≤ n) : Txt.mul "9" (n : Int) = nines n := by
  unfold Txt.mul nines
  rw [if_neg (by omega)]
  by_cases h1 : n = 1
  · subst h1
    decide +kernel
  · have e : (((n : Int) == 1 || ("9" : Str).length == 0)) = false := by
      rw [Bool.or_eq_false_iff]
      refine ⟨?_, by decide +kernel⟩
      rw [beq_eq_false_iff_ne]
      omega
    rw [e, if_neg Bool.false_ne_true, nine_is, Int.toNat_natCast, fold_nines]
    simp
theorem mulOk_nines {n : Nat} (h : n ≤ 600) : MulOk "9" (n : Int) := by
  have e9 : ("9" : Str).length = 1 := by decide +kernel
  refine ⟨?_, fun h1 _ => ?_, fun _ _ => ?_⟩
  · rw [Bool.or_eq_false_iff]
    exact ⟨decide_eq_false (by omega), decide_eq_false (by omega)⟩
  · rw [e9]
    have : (1 : Int) ≤ (2 ^ 63 - 1) / (n : Int) := by
      rw [Int.le_ediv_iff_mul_le (by omega)]
      omega
    omega
  · rw [e9]
    unfold PySem.Builtin.Str.tooLong
    exact decide_eq_false (by rw [sizeLine_eq]; omega)
theorem digits_nines (n : Nat) : ∀ a : Nat,
    (List.replicate n 57).foldl (fun acc c => acc * 10 + (c - 48)) a <
      (a + 1) * 10 ^ n := by
  induction n with
  | zero => intro a; simp
  | succ n ih =>
    intro a
    rw [List.replicate_succ, List.foldl_cons]
    refine Nat.lt_of_lt_of_le (ih _) ?_
    rw [Nat.pow_succ, Nat.mul_comm (10 ^ n) 10, ← Nat.mul_assoc]
    exact Nat.mul_le_mul_right _ (by omega)
theorem int_nines {n : Nat} (h : 1 ≤ n) (h2 : n ≤ 600) : ∃ r : Nat,
    intText? (nines n) = some (r : Int) ∧ r < 10 ^ n := by
  refine ⟨_, intText_digits (x := nines n) ?_ ?_ ?_, ?_⟩
  · intro c hc
    have := List.eq_of_mem_replicate (show c ∈ List.replicate n 57 from hc)
    omega
  · show List.replicate n 57 ≠ []
    intro z
    have := congrArg List.length z
    simp at this
    omega
  · show (List.replicate n 57).toArray.size ≤ 4300
    simp
    omega
  · have := digits_nines n 0
    simpa [NumText.digitsVal, nines] using this
section
variable {K : PySem.W.Frag} {l : Option Addr} {ρ : Ro} {m : Nat}
variable {Φ : Nat → D → Prop} {Θ : Nat → Bool → Prop}
variable {Nx : Nat → Ro → Prop} {Rt : Nat → D → Prop} {ts tb : TS}
variable {ta te tl : TE} {t u : TT} {tA tK : TA}
variable {Z Z' : Addr → Prop} {B H : Hp} {σ : L2.St}
theorem v_nines {n : Nat} (h : 1 ≤ n) (h2 : n ≤ 600)
    (q : Φ m (.str (nines n))) :
    VvC K l ρ (fun vs H Q => ∃ x y, vs = [x, y] ∧ rMulS x y H Q)
      [.str "9", .int n] m Φ := by
  intro Z B H σ vs Q ok is k
  obtain ⟨v, w, rfl, h1, h3⟩ := isAll2 is
  cases h1
  cases h3
  refine ⟨_, _, rfl, _, _, rfl, rfl, mulOk_nines h2, ?_⟩
  rw [mul_nines h]
  exact k _ _ m B H ok Fr.refl (.str _) q
theorem v_intNines {n : Nat} (h : 1 ≤ n) (h2 : n ≤ 600)
    (q : ∀ r : Nat, r < 10 ^ n → Φ m (.int r)) :
    VvC K l ρ (fun xs H Q => ∃ a n, xs = [.str a] ∧ intText? a = some n ∧
      a.length ≤ 640 ∧ Q (.int n) H) [.str (nines n)] m Φ := by
  intro Z B H σ vs Q ok is k
  obtain ⟨v, rfl, h1⟩ := isAll1 is
  cases h1
  obtain ⟨r, e, hr⟩ := int_nines h h2
  refine ⟨_, _, rfl, e, ?_, k _ _ m B H ok Fr.refl (.int _) (q r hr)⟩
  show (List.replicate n 57).toArray.size ≤ 640
  simp
  omega
/-! while -/
theorem s_while {I : Nat → Nat → Ro → Prop} {q0 : Nat} (h0 : I q0 m ρ)
    (h : ∀ q n ρ', I q n ρ' → TvC K l t ρ' n fun n1 b =>
      if b = true then SvC K l tb ρ' n1
        (fun n2 ρ2 => ∃ q', q' < q ∧ I q' n2 ρ2) Rt
      else Nx n1 ρ') :
    SvC K l (tWhile t tb) ρ m Nx Rt := by
  intro Z B H σ W ok k j
  refine ⟨fun q σ' H' => ∃ n ρ' B', Ok K l Z n B' H' σ' ρ' ∧
    Fr Z B H B' H' ∧ I q n ρ', ⟨q0, m, ρ, B, ok, Fr.refl, h0⟩, ?_⟩
  rintro q σ' H' ⟨n, ρ', B', ok', fr', hI⟩
  refine h q n ρ' hI Z B' H' σ' _ ok' fun b n1 B1 H1 o1 f1 g1 => ?_
  cases b with
  | true =>
    refine ⟨fun σ2 H2 => ∃ q', q' < q ∧ ∃ n ρ' B', Ok K l Z n B' H2 σ2 ρ' ∧
      Fr Z B H B' H2 ∧ I q' n ρ', fun _ _ z => z, ?_⟩
    refine g1 Z B1 H1 σ' _ o1 (fun σ2 ρ2 n2 B2 H2 o2 f2 g2 => ?_)
      fun v d n2 B2 H2 o2 f2 i2 g2 => ?_
    · obtain ⟨q', hq, g⟩ := g2
      exact ⟨q', hq, n2, ρ2, B2, o2, (fr'.trans f1).trans f2, g⟩
    · exact j v d n2 B2 H2 o2 ((fr'.trans f1).trans f2) i2 g2
  | false => exact k σ' ρ' n1 B1 H1 o1 (fr'.trans f1) g1
/-! three at once -/
abbrev g3 (K : PySem.W.Frag) (i j k : Nat) : TG :=
  gTup K 3 (gCons (gName i) (gCons (gName j) (gCons (gName k) gNil)))
theorem isAll3 {vs : List V} {d e f : D} (h : IsAll K B vs [d, e, f]) :
    ∃ v w x, vs = [v, w, x] ∧ Is K B v d ∧ Is K B w e ∧ Is K B x f := by
  cases h with
  | cons h r =>
    obtain ⟨w, x, rfl, h2, h3⟩ := isAll2 r
    exact ⟨_, w, x, rfl, h, h2, h3⟩
theorem lcw_turn3 {A T : Addr} {I : Nat → Nat → List D → Prop} {c i j k : Nat}
    {x y z : V} {H' : Hp} {P : D → D → D → Prop} (hz : ¬ Z A)
    (hi : ρ[i]? = some none) (hj : ρ[j]? = some none)
    (hk : ρ[k]? = some none) (hij : i ≠ j) (hik : i ≠ k) (hjk : j ≠ k)
    (w : LcW K l Z ρ σ B H A I c H') (hT : H' T = none)
    (hx : ∀ B', Same B B' → ∃ d e f, Is K B' x d ∧ Is K B' y e ∧
      Is K B' z f ∧ P d e f) (hc : c < 100000)
    (he : ∀ d e f n acc, P d e f → I c n acc → acc.length = c →
      EvC K l te (((ρ.set i (some (.dat d))).set j (some (.dat e))).set k
        (some (.dat f))) n fun n2 y => I (c + 1) n2 (acc ++ [y])) :
    g3 K i j k (.ref T) (wipe σ [i, j, k]) (upd H' T (.tup [x, y, z]))
      fun σ2 H2 => wipe σ2 [i, j, k] = wipe σ [i, j, k] ∧
        tYes σ2 H2 fun b H3 => if b = true then te σ2 H3 fun y H4 =>
          ∃ acc, H4 A = some (.lst acc) ∧ acc.length < sizeLine ∧
            LcW K l Z ρ σ B H A I (c + 1) (upd H4 A (.lst (acc ++ [y])))
        else LcW K l Z ρ σ B H A I (c + 1) H3 := by
  obtain ⟨n, acc, xs, B', ok, fr, hA, is, hI, hl⟩ := w
  obtain ⟨d, e, f, hd, he', hf, hP⟩ := hx B' fr.sub
  refine ⟨T, [x, y, z], rfl, SqT.of upd_same, rfl, x, [y, z], rfl, y, [z],
    rfl, z, [], rfl, rfl, ?_⟩
  have e1 : (((wipe σ [i, j, k]).set i (some x)).set j (some y)).set k
      (some z) = ((σ.set i (some x)).set j (some y)).set k (some z) := by
    show (((((σ.set k none).set j none).set i none).set i (some x)).set j
      (some y)).set k (some z) = _
    rw [List.set_set, List.set_comm _ _ (Ne.symm hij) (l := σ.set k none),
      List.set_set, List.set_comm _ _ (Ne.symm hik) (l := σ),
      List.set_comm _ _ (Ne.symm hjk), List.set_set]
  have e2 : wipe (((σ.set i (some x)).set j (some y)).set k (some z))
      [i, j, k] = wipe σ [i, j, k] := by
    show (((((σ.set i (some x)).set j (some y)).set k (some z)).set k
      none).set j none).set i none = ((σ.set k none).set j none).set i none
    rw [List.set_set, List.set_comm _ _ hjk, List.set_set,
      List.set_comm _ _ hik, List.set_comm _ _ hij, List.set_set]
  unfold tYes
  dsimp only
  rw [e1, if_pos rfl]
  refine ⟨e2, ?_⟩
  obtain ⟨okJ, frJ⟩ := ok.junk (o := .tup [x, y, z]) hT
  have nTA : A ≠ T := fun z => by rw [z, hT] at hA; cases hA
  refine he d e f n acc hP hI hl _ B' _ _ _ (((okJ.set hd).set he').set hf)
    fun v y2 n2 B2 H2 o2 f2 i2 g2 => ?_
  have hA2 : H2 A = some (.lst xs) := by
    rw [f2.kept A (.inr rfl), upd_ne nTA]
    exact hA
  have hj2 : (ρ.set i (some (.dat d)))[j]? = some none := by
    rw [List.getElem?_set_ne hij]; exact hj
  have hk2 : ((ρ.set i (some (.dat d))).set j (some (.dat e)))[k]? =
      some none := by
    rw [List.getElem?_set_ne hjk, List.getElem?_set_ne hik]; exact hk
  refine ⟨xs, hA2, ?_, n2, acc ++ [y2], xs ++ [v], B2,
    (((o2.unset hk2).unset hj2).unset hi).write (.inr rfl), ?_, upd_same,
    (is.mono f2.sub).append (.cons i2 .nil), g2, by simp [hl]⟩
  · rw [is.length, hl]
    exact Nat.lt_of_lt_of_le hc (by decide)
  · refine ⟨fr.sub.trans f2.sub, fun z hz' => ?_⟩
    rw [upd_ne (fun (e : z = A) => hz (e ▸ hz'))]
    rw [f2.kept z (.inl hz'), frJ.kept z (.inl hz')]
    exact fr.kept z hz'
/-- [e for a, b, c in zip(t, u, v)] of three tuples -/
theorem e_lcZ3 {i j k : Nat} (hi : ρ[i]? = some none)
    (hj : ρ[j]? = some none) (hk : ρ[k]? = some none) (hij : i ≠ j)
    (hik : i ≠ k) (hjk : j ≠ k)
    (h : AvC K l tA ρ m fun m1 as => ∃ xs ys zs,
      as = [.tup xs, .tup ys, .tup zs] ∧ xs.length ≤ 50000 ∧
      ∃ I : Nat → Nat → List D → Prop, I 0 m1 [] ∧
      (∀ c n acc d e f, xs[c]? = some d → ys[c]? = some e →
        zs[c]? = some f → I c n acc → acc.length = c →
        EvC K l te (((ρ.set i (some (.dat d))).set j (some (.dat e))).set k
          (some (.dat f))) n fun n2 y => I (c + 1) n2 (acc ++ [y])) ∧
      ∀ n acc, acc.length = min (min xs.length ys.length) zs.length →
        I (min (min xs.length ys.length) zs.length) n acc → Φ n (.lst acc)) :
    EvC K l (tLc (iZip3 K tA) (g3 K i j k) tYes te [i, j, k]) ρ m Φ := by
  intro Z B H σ Q ok kk
  refine h Z B H σ _ ok fun vs as m1 B1 H1 o1 f1 i1 g1 => ?_
  obtain ⟨xs, ys, zs, rfl, hl, I, h0, hs, hd⟩ := g1
  obtain ⟨v, w, x, rfl, z1, z2, z3⟩ := isAll3 i1
  cases z1 with
  | @tup a us _ hu r1 =>
    cases z2 with
    | @tup b ws _ hw r2 =>
      cases z3 with
      | @tup c qs _ hq r3 =>
        refine ⟨a, b, c, us, ws, qs, rfl, sameT o1.sub hu, sameT o1.sub hw,
          sameT o1.sub hq, fun A hA => ?_⟩
        have hz : ¬ Z A := fun z => (o1.zs A z).1 hA
        refine lc_it (walk_zip3 (xs := us) (ys := ws) (zs := qs) rfl)
          (LcW K l Z ρ σ B1 H1 A I) (lcw_start o1 hA h0)
          (fun c H' _ w => ?_) (fun c x H' H'' hc w q => ?_) fun H' w => ?_
        · obtain ⟨n, acc, zs, B', ok', fr', _⟩ := w
          exact ⟨sameT ok'.sub (sameT fr'.sub hu),
            sameT ok'.sub (sameT fr'.sub hw),
            sameT ok'.sub (sameT fr'.sub hq)⟩
        · obtain ⟨T, x1, y1, w1, rfl, hT, rfl, e1, e2, e3⟩ := q
          refine lcw_turn3 (P := fun d e f => xs[c]? = some d ∧
            ys[c]? = some e ∧ zs[c]? = some f)
            hz hi hj hk hij hik hjk w hT (fun B' sb => ?_)
            (by rw [r1.length] at hc; omega)
            fun d e f n acc p => hs c n acc d e f p.1 p.2.1 p.2.2
          obtain ⟨d, q1, p1⟩ := (r1.mono sb).get e1
          obtain ⟨e, q2, p2⟩ := (r2.mono sb).get e2
          obtain ⟨f, q3, p3⟩ := (r3.mono sb).get e3
          exact ⟨d, e, f, p1, p2, p3, q1, q2, q3⟩
        · rw [r1.length, r2.length, r3.length] at w
          exact lcw_end hz w hd fun v d m' B2 H2 o2 f2 i2 g2 =>
            kk v d m' B2 H2 o2 (f1.trans f2) i2 g2
/-- t[-1] and the like -/
theorem v_ixTn {ds : List D} {d : D} {i : Int} (h0 : i < 0)
    (h1 : 0 ≤ (ds.length : Int) + i)
    (hd : ds[((ds.length : Int) + i).toNat]? = some d) (q : Φ m d) :
    VvC K l ρ (fun vs H Q => ∃ x y, vs = [x, y] ∧ rIxT K x y H Q)
      [.tup ds, .int i] m Φ := by
  intro Z B H σ vs Q ok is k
  obtain ⟨v, w, rfl, h, h2⟩ := isAll2 is
  cases h2
  cases h with
  | @tup a us _ h r =>
    obtain ⟨v, e, iv⟩ := r.got hd
    refine ⟨_, _, rfl, a, us, i, v, rfl, rfl, sameT ok.sub h, ?_,
      k _ _ m B H ok Fr.refl iv q⟩
    unfold atI ixN
    have hl := r.length
    rw [if_neg (by omega), if_pos (by omega), hl]
    rw [Int.add_comm] at e
    exact e
end
end Wt

/-! Data of whole numbers, tuples and lists alone: == is sameness; rows made item by item. -/
namespace Wt
open PySem PySem.Spec PyProof.Rows L2
mutual
def D.numB : D → Bool
  | .int _ => true
  | .non => true
  | .lst xs => D.nums xs
  | .tup xs => D.nums xs
  | _ => false
def D.nums : List D → Bool
  | [] => true
  | x :: xs => D.numB x && D.nums xs
end
mutual
theorem eqv_iff : ∀ (a b : D), a.numB = true → b.numB = true →
    (PyData.eqv a.py b.py = true ↔ a = b)
  | .int i, .int j, _, _ => by simp [D.py, PyData.eqv]
  | .non, .non, _, _ => by simp [D.py, PyData.eqv]
  | .lst xs, .lst ys, ha, hb => by
    rw [D.numB] at ha hb
    rw [D.py, D.py, PyData.eqv, eqvs_iff xs ys ha hb, D.lst.injEq]
  | .tup xs, .tup ys, ha, hb => by
    rw [D.numB] at ha hb
    rw [D.py, D.py, PyData.eqv, eqvs_iff xs ys ha hb, D.tup.injEq]
  | .int _, .non, _, _ | .int _, .lst _, _, _ | .int _, .tup _, _, _
  | .non, .int _, _, _ | .non, .lst _, _, _ | .non, .tup _, _, _
  | .lst _, .int _, _, _ | .lst _, .non, _, _ | .lst _, .tup _, _, _
  | .tup _, .int _, _, _ | .tup _, .non, _, _ | .tup _, .lst _, _, _ => by
    simp [D.py, PyData.eqv]
  | .bl _, _, h, _ | .str _, _, h, _ | .dic _, _, h, _ | .ins _ _ _, _, h, _
  | .scr _, _, h, _ => by simp [D.numB] at h
  | .int _, .bl _, _, h | .int _, .str _, _, h | .int _, .dic _, _, h
  | .int _, .ins _ _ _, _, h | .int _, .scr _, _, h
  | .non, .bl _, _, h | .non, .str _, _, h | .non, .dic _, _, h
  | .non, .ins _ _ _, _, h | .non, .scr _, _, h
  | .lst _, .bl _, _, h | .lst _, .str _, _, h | .lst _, .dic _, _, h
  | .lst _, .ins _ _ _, _, h | .lst _, .scr _, _, h
  | .tup _, .bl _, _, h | .tup _, .str _, _, h | .tup _, .dic _, _, h
  | .tup _, .ins _ _ _, _, h | .tup _, .scr _, _, h => by simp [D.numB] at h
theorem eqvs_iff : ∀ (a b : List D), D.nums a = true → D.nums b = true →
    (PyData.eqvAll (D.pys a) (D.pys b) = true ↔ a = b)
  | [], [], _, _ => by simp [D.pys, PyData.eqvAll]
  | [], y :: ys, _, _ => by simp [D.pys, PyData.eqvAll]
  | x :: xs, [], _, _ => by simp [D.pys, PyData.eqvAll]
  | x :: xs, y :: ys, ha, hb => by
    rw [D.nums, Bool.and_eq_true] at ha hb
    rw [D.pys, D.pys, PyData.eqvAll, Bool.and_eq_true,
      eqv_iff x y ha.1 hb.1, eqvs_iff xs ys ha.2 hb.2, List.cons.injEq]
end
theorem flats_all (xs : List D) : D.nums xs = xs.all D.numB := by
  induction xs with
  | nil => rfl
  | cons x r ih => rw [D.nums, ih]; rfl
mutual
theorem flat_noDic : ∀ d : D, d.numB = true → d.noDic = true
  | .int _, _ => rfl
  | .non, _ => rfl
  | .lst xs, h => by rw [D.numB] at h; rw [D.noDic]; exact flats_noDic xs h
  | .tup xs, h => by rw [D.numB] at h; rw [D.noDic]; exact flats_noDic xs h
  | .bl _, h | .str _, h | .dic _, h | .ins _ _ _, h | .scr _, h => by
    simp [D.numB] at h
theorem flats_noDic : ∀ xs : List D, D.nums xs = true → D.noDics xs = true
  | [], _ => rfl
  | x :: xs, h => by
    rw [D.nums, Bool.and_eq_true] at h
    rw [D.noDics, flat_noDic x h.1, flats_noDic xs h.2]; rfl
end
mutual
theorem flat_lay : ∀ d : D, d.numB = true → d.py.canLay0 = true
  | .int _, _ => by simp [D.py, PyData.canLay0]
  | .non, _ => by simp [D.py, PyData.canLay0]
  | .lst xs, h => by
    rw [D.numB] at h; rw [D.py, PyData.canLay0]; exact flats_lay xs h
  | .tup xs, h => by
    rw [D.numB] at h; rw [D.py, PyData.canLay0]; exact flats_lay xs h
  | .bl _, h | .str _, h | .dic _, h | .ins _ _ _, h | .scr _, h => by
    simp [D.numB] at h
theorem flats_lay : ∀ xs : List D, D.nums xs = true →
    PyData.canLayAll0 (D.pys xs) = true
  | [], _ => by simp [D.pys, PyData.canLayAll0]
  | x :: xs, h => by
    rw [D.nums, Bool.and_eq_true] at h
    rw [D.pys, PyData.canLayAll0, flat_lay x h.1, flats_lay xs h.2]; rfl
end
mutual
theorem flat_noDict : ∀ d : D, d.numB = true → d.py.hasDict = false
  | .int _, _ => by simp [D.py, PyData.hasDict]
  | .non, _ => by simp [D.py, PyData.hasDict]
  | .lst xs, h => by
    rw [D.numB] at h; rw [D.py, PyData.hasDict]; exact flats_noDict xs h
  | .tup xs, h => by
    rw [D.numB] at h; rw [D.py, PyData.hasDict]; exact flats_noDict xs h
  | .bl _, h | .str _, h | .dic _, h | .ins _ _ _, h | .scr _, h => by
    simp [D.numB] at h
theorem flats_noDict : ∀ xs : List D, D.nums xs = true →
    PyData.hasDictAll (D.pys xs) = false
  | [], _ => by simp [D.pys, PyData.hasDictAll]
  | x :: xs, h => by
    rw [D.nums, Bool.and_eq_true] at h
    rw [D.pys, PyData.hasDictAll, flat_noDict x h.1, flats_noDict xs h.2]; rfl
end
/-- data of whole numbers, at most so deep and so much -/
structure Num (k w : Nat) (d : D) : Prop extends Itm k w d where
  flat : d.numB = true
section
variable {k w k' w' : Nat} {d e : D} {xs : List D}
theorem Num.up (h : Num k w d) (hk : k ≤ k') (hw : w ≤ w') : Num k' w' d :=
  ⟨h.toItm.mono hk hw, h.flat⟩
theorem Num.shows (h : Num k w d) (hk : k ≤ 100) (hw : w ≤ 200000) :
    Shows d :=
  h.toItm.shows hk hw fun z => by rw [flat_noDict d h.flat] at z; cases z
theorem Num.eqs (h : Num k w d) (hk : k ≤ 64) : Eqs d :=
  ⟨flat_noDic d h.flat, by
    unfold SeqAt.shaped
    rw [flat_lay d h.flat, decide_eq_true (Nat.le_trans h.deep hk)]; rfl⟩
theorem Num.tup (h : ∀ x ∈ xs, Num k w x) :
    Num (k + 1) ((w + 1) * xs.length) (.tup xs) :=
  ⟨Itm.tup fun x hx => (h x hx).toItm, by
    rw [D.numB, flats_all, List.all_eq_true]
    exact fun x hx => (h x hx).flat⟩
theorem Num.lst (h : ∀ x ∈ xs, Num k w x) :
    Num (k + 1) ((w + 1) * xs.length) (.lst xs) :=
  ⟨Itm.lst fun x hx => (h x hx).toItm, by
    rw [D.numB, flats_all, List.all_eq_true]
    exact fun x hx => (h x hx).flat⟩
theorem Num.eqv (h : Num k w d) (h' : Num k' w' e) :
    (PyData.eqv d.py e.py = true ↔ d = e) := eqv_iff d e h.flat h'.flat
theorem Num.same (h : Num k w d) : PyData.eqv d.py d.py = true :=
  (eqv_iff d d h.flat h.flat).mpr rfl
theorem Num.other (h : Num k w d) (h' : Num k' w' e) (n : d ≠ e) :
    PyData.eqv d.py e.py = false := by
  cases q : PyData.eqv d.py e.py with
  | false => rfl
  | true => exact absurd ((h.eqv h').mp q) n
end
section
variable {K : PySem.W.Frag} {l : Option Addr} {ρ : Ro} {m : Nat}
theorem a_imp {tA : TA} {Ψ Ψ' : Nat → List D → Prop}
    (h : AvC K l tA ρ m Ψ) (q : ∀ n d, Ψ n d → Ψ' n d) :
    AvC K l tA ρ m Ψ' :=
  fun Z B H σ Q ok k => h Z B H σ Q ok fun v d n B2 H2 a b c e =>
    k v d n B2 H2 a b c (q n d e)
theorem t_imp {t : TT} {Θ Θ' : Nat → Bool → Prop}
    (h : TvC K l t ρ m Θ) (q : ∀ n b, Θ n b → Θ' n b) :
    TvC K l t ρ m Θ' :=
  fun Z B H σ Q ok k => h Z B H σ Q ok fun b n B2 H2 a c e =>
    k b n B2 H2 a c (q n b e)
theorem s_imp {ts : TS} {Nx Nx' : Nat → Ro → Prop} {Rt Rt' : Nat → D → Prop}
    (h : SvC K l ts ρ m Nx Rt) (q : ∀ n r, Nx n r → Nx' n r)
    (q2 : ∀ n d, Rt n d → Rt' n d) : SvC K l ts ρ m Nx' Rt' :=
  fun Z B H σ W ok k j => h Z B H σ W ok
    (fun σ2 ρ2 m2 B2 H2 o2 f2 g2 => k σ2 ρ2 m2 B2 H2 o2 f2 (q m2 ρ2 g2))
    fun v d m2 B2 H2 o2 f2 i2 g2 => j v d m2 B2 H2 o2 f2 i2 (q2 m2 d g2)
end
end Wt

/-! Objects with two fields: made, read, asked. -/
namespace Wt
open PySem PySem.Spec PyProof.Rows L2
/-- what a new object's own __init__ promises: the fields are what was handed in -/
def SpI (K : PySem.W.Frag) (C : Addr) (n1 n2 : Str) (pre : List D → Prop) :
    Sp := fun vs H Q _ => ∃ x dx B v1 v2 d1 d2, vs = [.ref x, v1, v2] ∧
  H x = some (.ins C dx []) ∧ Same B H ∧ B x = none ∧ Is K B v1 d1 ∧
  Is K B v2 d2 ∧ pre [d1, d2] ∧
  ∀ B2 H2, Same B B2 → Same B2 H2 →
    H2 x = some (.ins C dx [(n1, v1), (n2, v2)]) →
    (∀ b o, b ≠ x → H b = some o → H2 b = some o) →
    (∀ a, H a ≠ none → B a = none → B2 a = none) → Q .non H2
structure Own2 (K : PySem.W.Frag) (C : Addr) (n1 n2 : Str) : Prop where
  cls : Cls K C
  a1 : NoAttr K C n1
  a2 : NoAttr K C n2
section
variable {K : PySem.W.Frag} {l : Option Addr} {ρ : Ro} {m : Nat}
variable {Φ : Nat → D → Prop} {Θ : Nat → Bool → Prop}
variable {ta te tl : TE} {t u : TT} {tA : TA} {C : Addr} {n1 n2 : Str}
variable {Z : Addr → Prop} {B H : Hp} {σ : L2.St}
theorem body_I {pre : List D → Prop} {vs : List V} {Q : VK} {E : XK}
    {N : List Str} (hN : N.length = 3) (c : Own2 K C n1 n2) (hne : n1 ≠ n2)
    (h : SpI K C n1 n2 pre vs H Q E)
    (hb : ∀ d1 d2, pre [d1, d2] →
      TvC K none t [none, some (.dat d1), some (.dat d2)] 0
        (fun _ b => b = false) ∧
      ∀ n, TvC K none u [none, some (.dat d1), some (.dat d2)] n
        (fun _ b => b = false)) :
    tSeq (tIfS t tNever tNext) (tSeq (tIfS u tNever tNext)
      (tSeq (sFld K (tVar 0) (tVar 1) n1) (sFld K (tVar 0) (tVar 2) n2)))
      { nx := fun _ H' => Q .non H', rt := Q } (start N vs) H := by
  obtain ⟨x, dx, B, v1, v2, d1, d2, rfl, hx, sb, hBx, i1, i2, hp, k⟩ := h
  obtain ⟨p1, p2⟩ := hb d1 d2 hp
  have es : start N [.ref x, v1, v2] = [some (.ref x), some v1, some v2] := by
    unfold L2.start
    simp [hN]
  rw [es]
  have ok : Ok K none (fun a => H a ≠ none ∧ B a = none) 0 B H
      [some (.ref x), some v1, some v2]
      [none, some (.dat d1), some (.dat d2)] := by
    refine ⟨⟨sb, fun a e => (nomatch e), fun z h => ⟨h.1, h.2, nofun⟩⟩, rfl,
      fun i s e => ?_, fun i j ds1 es a n e1 => ?_⟩
    · match i, e with
      | 1, e => cases e; exact ⟨_, rfl, i1⟩
      | 2, e => cases e; exact ⟨_, rfl, i2⟩
    · match i, e1 with
      | 1, e => cases e
      | 2, e => cases e
  have zx : H x ≠ none ∧ B x = none := ⟨by rw [hx]; exact nofun, hBx⟩
  refine p1 _ B H _ _ ok fun b m1 B1 H1 o1 f1 e1 => ?_
  subst e1
  refine p2 m1 _ B1 H1 _ _ o1 fun b m2 B2 H2 o2 f2 e2 => ?_
  subst e2
  have fr := f1.trans f2
  have hx2 : H2 x = some (.ins C dx []) := (fr.kept x zx).trans hx
  have zb := (o2.zs x zx).2.1
  refine ⟨v1, rfl, .ref x, rfl, x, C, dx, [], rfl, hx2, c.cls, c.a1, by simp, ?_⟩
  refine ⟨v2, rfl, .ref x, rfl, x, C, dx, _, rfl, upd_same, c.cls, c.a2,
    by simp [putF], ?_⟩
  refine k B2 _ fr.sub (fun b o e => ?_) ?_ (fun b o n e => ?_)
    fun a h1 h2 => (o2.zs a ⟨h1, h2⟩).2.1
  · have n : b ≠ x := fun z => by subst z; rw [zb] at e; cases e
    rw [upd_ne n, upd_ne n]
    exact o2.sub b o e
  · rw [upd_same]
    simp [putF, hne]
  · rw [upd_ne n, upd_ne n]
    cases q : B b with
    | none => rw [fr.kept b ⟨by rw [e]; exact nofun, q⟩]; exact e
    | some y =>
      rw [sb b y q] at e
      cases e
      exact o2.sub b _ (fr.sub b _ q)
/-- C(a, b) -/
theorem e_make {pre : List D → Prop} {E : XK}
    (h : AvC K l tA ρ m fun m1 ds => ∃ d1 d2, ds = [d1, d2] ∧
      pre [d1, d2] ∧ Φ m1 (.ins C [n1, n2] [d1, d2])) :
    EvC K l (tMake C (SpI K C n1 n2 pre) [] E tA) ρ m Φ := by
  intro Z B H σ Q ok k
  refine h Z B H σ _ ok fun vs ds m1 B1 H1 o1 f1 i1 g1 => ?_
  obtain ⟨d1, d2, rfl, hp, q⟩ := g1
  obtain ⟨v1, v2, rfl, a1, a2⟩ := isAll2 i1
  intro x dx hx hdx hne
  obtain ⟨oJ, fJ⟩ := o1.junk (o := .own x) hdx
  have hx' : upd H1 dx (.own x) x = none := by
    rw [upd_ne (fun z => hne z.symm)]; exact hx
  have oA := oJ.aside (o := .ins C dx []) hx'
  have hz : ¬ Z x := fun z => (o1.zs x z).1 hx
  have hBx : B1 x = none := o1.same0 hx
  refine ⟨x, dx, B1, v1, v2, d1, d2, rfl, upd_same, oA.sub, hBx, a1, a2, hp,
    fun B2 H2 s1 s2 e2 kp fr => ⟨rfl, ?_⟩⟩
  have oW := oA.write (p := x) (o := .ins C dx [(n1, v1), (n2, v2)]) (.inr rfl)
  have hst : Ok K l (fun a => Z a ∨ a = x) m1 B2 H2 σ ρ ∧
      Fr (fun a => Z a ∨ a = x) B1 (upd (upd (upd H1 dx (.own x)) x (.ins C dx []))
        x (.ins C dx [(n1, v1), (n2, v2)])) B2 H2 := by
    refine oW.step (B2 := B2) (H2 := H2) (m' := m1) s1 s2
      (fun a e => ?_) (fun a o n e => ?_) (fun a n e => ?_)
    · obtain ⟨g, s, cc, e1, r⟩ := (oA.hand a e).1
      have n : a ≠ x := fun w => by
        subst w
        exact (o1.hand a e).1.some hx
      exact ⟨g, s, cc, kp a _ n e1, r⟩
    · by_cases w : a = x
      · subst w
        rw [upd_same] at e
        cases e
        exact e2
      · rw [upd_ne w] at e
        exact kp a o w e
    · by_cases w : a = x
      · subst w
        exact fr a (by rw [upd_same]; exact nofun) e
      · rw [upd_ne w] at n
        exact fr a n e
  obtain ⟨oS, fS⟩ := hst
  have oT := oS.thaw e2 hz
  have sm : Same B2 (upd B2 x (.ins C dx [(n1, v1), (n2, v2)])) :=
    same_new (oS.zs x (.inr rfl)).2.1
  refine k (.ref x) _ m1 _ H2 oT (f1.trans ⟨s1.trans sm, fun z hz' => ?_⟩)
    (.ins (dx := dx) (xs := [v1, v2]) upd_same
      (((IsAll.cons a1 (.cons a2 .nil)).mono s1).mono sm)) q
  rw [fS.kept z (.inl hz')]
  rw [upd_ne (fun (w : z = x) => hz (w ▸ hz')),
    upd_ne (fun (w : z = x) => hz (w ▸ hz'))]
  exact fJ.kept z hz'
theorem e_fld1 (c : Own2 K C n1 n2)
    (h : EvC K l ta ρ m fun m1 x => ∃ d1 d2, x = .ins C [n1, n2] [d1, d2] ∧
      Φ m1 d1) : EvC K l (tFld K ta n1) ρ m Φ := by
  intro Z B H σ Q ok k
  refine h Z B H σ _ ok fun v x m1 B1 H1 o1 f1 i1 g1 => ?_
  obtain ⟨d1, d2, rfl, q⟩ := g1
  cases i1 with
  | @ins a dx _ _ xs _ ha is =>
    obtain ⟨v1, v2, rfl, a1, a2⟩ := isAll2 is
    refine ⟨a, C, dx, _, v1, rfl, o1.sub _ _ ha, c.cls, c.a1, ?_,
      k _ _ m1 B1 H1 o1 f1 a1 q⟩
    simp
theorem e_fld2 (c : Own2 K C n1 n2) (hne : n1 ≠ n2)
    (h : EvC K l ta ρ m fun m1 x => ∃ d1 d2, x = .ins C [n1, n2] [d1, d2] ∧
      Φ m1 d2) : EvC K l (tFld K ta n2) ρ m Φ := by
  intro Z B H σ Q ok k
  refine h Z B H σ _ ok fun v x m1 B1 H1 o1 f1 i1 g1 => ?_
  obtain ⟨d1, d2, rfl, q⟩ := g1
  cases i1 with
  | @ins a dx _ _ xs _ ha is =>
    obtain ⟨v1, v2, rfl, a1, a2⟩ := isAll2 is
    refine ⟨a, C, dx, _, v2, rfl, o1.sub _ _ ha, c.cls, c.a2, ?_,
      k _ _ m1 B1 H1 o1 f1 a2 q⟩
    simp [List.lookup, beq_eq_false_iff_ne.mpr (Ne.symm hne)]
/-- o.m() that promises as a function does -/
theorem e_meth0 {pre : List D → Prop} {F : List D → D} {E : XK} {me : Str}
    (hm1 : me ≠ n1) (hm2 : me ≠ n2)
    (h : EvC K l ta ρ m fun m1 x => ∃ d1 d2, x = .ins C [n1, n2] [d1, d2] ∧
      pre [x] ∧ Φ m1 (F [x])) :
    EvC K l (tMeth C me (SpP K pre F) [] E ta tNil) ρ m Φ := by
  intro Z B H σ Q ok k
  refine h Z B H σ _ ok fun v x m1 B1 H1 o1 f1 i1 g1 => ?_
  obtain ⟨d1, d2, rfl, hp, q⟩ := g1
  have i1' := i1
  cases i1 with
  | @ins a dx _ _ xs _ ha is =>
    obtain ⟨v1, v2, rfl, a1, a2⟩ := isAll2 is
    refine ⟨a, dx, _, rfl, o1.sub _ _ ha, ?_, ?_⟩
    · simp [List.lookup, beq_eq_false_iff_ne.mpr hm1,
        beq_eq_false_iff_ne.mpr hm2]
    · exact v_P (E := E) hp q Z B1 H1 σ [.ref a] Q o1 (.cons i1' .nil)
        fun v d m2 B2 H2 o2 f2 i2 g2 => k v d m2 B2 H2 o2 (f1.trans f2) i2 g2
end
section
variable {X : Cx} {K : PySem.W.Frag} {e o value : Expr} {f : Str}
variable {pos pos' : Pos} {ta tv : TE}
theorem pe_fldK (hK : X.K = K) (he : PE X e ta)
    (hb : attributeBase e f X.env (eval e X.env) = eval e X.env) :
    PE X (.Attribute e f pos) (tFld K ta f) := by
  subst hK
  exact pe_fld he hb
theorem ps_fldK (hK : X.K = K) (ha : PE X o ta) (hv : PE X value tv)
    (hs : swapsWith value (some (.Attribute o f pos')) pos.line X.env =
      pure false) :
    PS X (.Assign [.Attribute o f pos'] value pos) (sFld K ta tv f) := by
  subst hK
  exact ps_fld ha hv hs
end
section
variable {K : PySem.W.Frag} {l : Option Addr} {ρ : Ro} {m : Nat}
variable {Nx : Nat → Ro → Prop} {Rt : Nat → D → Prop} {tA : TA} {te : TE}
theorem s_par3 {i j k : Nat} (h : AvC K l tA ρ m fun m1 ds => ∃ x y z,
      ds = [x, y, z] ∧ Nx m1 (((ρ.set i (some (.dat x))).set j
        (some (.dat y))).set k (some (.dat z)))) :
    SvC K l (tPar3 i j k tA) ρ m Nx Rt := by
  intro Z B H σ W ok kk _
  refine h Z B H σ _ ok fun vs ds m1 B1 H1 o1 f1 i1 g1 => ?_
  obtain ⟨x, y, z, rfl, q⟩ := g1
  obtain ⟨u, v, w, rfl, h1, h2, h3⟩ := isAll3 i1
  exact ⟨u, v, w, rfl, kk _ _ m1 B1 H1 (((o1.set h1).set h2).set h3) f1 q⟩
/-- a, b, c = [], x, y where a will grow -/
theorem s_par3Own {i j k : Nat} (hij : i ≠ j) (hik : i ≠ k)
    (h : AvC K l tA ρ m fun m1 ds => ∃ y z, ds = [y, z] ∧
      Nx m1 (((ρ.set i (some (.own []))).set j (some (.dat y))).set k
        (some (.dat z)))) :
    SvC K l (tPar3 i j k (tCons (tLst tNil) tA)) ρ m Nx Rt := by
  intro Z B H σ W ok kk _
  refine ⟨Nat.zero_le _, fun p hp => ?_⟩
  have hz : ¬ Z p := fun z => (ok.zs p z).1 hp
  refine h _ B _ σ _ (ok.aside (o := .lst []) hp)
    fun vs ds m1 B1 H1 o1 f1 i1 g1 => ?_
  obtain ⟨y, z, rfl, q⟩ := g1
  obtain ⟨v, w, rfl, h2, h3⟩ := isAll2 i1
  have hp1 : H1 p = some (.lst []) := (f1.kept p (.inr rfl)).trans upd_same
  have o2 := (((o1.set (i := j) h2).set (i := k) h3).setOwn (i := i) hz hp1 .nil)
  rw [List.set_comm _ _ (Ne.symm hik), List.set_comm _ _ (Ne.symm hij),
    List.set_comm _ _ (Ne.symm hik) (l := ρ.set j _),
    List.set_comm _ _ (Ne.symm hij) (l := ρ)] at o2
  refine ⟨.ref p, v, w, rfl, kk _ _ m1 B1 H1 o2 ?_ q⟩
  exact ⟨f1.sub, fun z hz' => (f1.kept z (.inl hz')).trans
    (upd_ne fun e => hz (e ▸ hz'))⟩
/-- a, b = [], x where a will grow -/
theorem s_parOwn {i j : Nat} (hij : i ≠ j)
    (h : AvC K l tA ρ m fun m1 ds => ∃ y, ds = [y] ∧
      Nx m1 ((ρ.set i (some (.own []))).set j (some (.dat y)))) :
    SvC K l (tPar i j (tCons (tLst tNil) tA)) ρ m Nx Rt := by
  intro Z B H σ W ok kk _
  refine ⟨Nat.zero_le _, fun p hp => ?_⟩
  have hz : ¬ Z p := fun z => (ok.zs p z).1 hp
  refine h _ B _ σ _ (ok.aside (o := .lst []) hp)
    fun vs ds m1 B1 H1 o1 f1 i1 g1 => ?_
  obtain ⟨y, rfl, q⟩ := g1
  obtain ⟨v, rfl, h2⟩ := isAll1 i1
  have hp1 : H1 p = some (.lst []) := (f1.kept p (.inr rfl)).trans upd_same
  have o2 := ((o1.set (i := j) h2).setOwn (i := i) hz hp1 .nil)
  rw [List.set_comm _ _ (Ne.symm hij), List.set_comm _ _ (Ne.symm hij) (l := ρ)] at o2
  refine ⟨.ref p, v, rfl, kk _ _ m1 B1 H1 o2 ?_ q⟩
  exact ⟨f1.sub, fun z hz' => (f1.kept z (.inl hz')).trans
    (upd_ne fun e => hz (e ▸ hz'))⟩
end
section
variable {K : PySem.W.Frag} {l : Option Addr} {ρ : Ro} {m : Nat}
variable {Nx : Nat → Ro → Prop} {Rt : Nat → D → Prop} {tA : TA} {te : TE}
/-- a, b = x -/
theorem s_unp2 {i j : Nat} (h : EvC K l te ρ m fun m1 d => ∃ x y,
      d = .tup [x, y] ∧ Nx m1 ((ρ.set i (some (.dat x))).set j
        (some (.dat y)))) :
    SvC K l (tAsg te (g2 K i j)) ρ m Nx Rt := by
  intro Z B H σ W ok kk _
  refine h Z B H σ _ ok fun v d m1 B1 H1 o1 f1 i1 g1 => ?_
  obtain ⟨x, y, rfl, q⟩ := g1
  cases i1 with
  | @tup a us _ hu r =>
    obtain ⟨u, w, rfl, h1, h2⟩ := isAll2 r
    exact ⟨a, [u, w], rfl, sameT o1.sub hu, rfl, u, [w], rfl, w, [], rfl, rfl,
      kk _ _ m1 B1 H1 ((o1.set h1).set h2) f1 q⟩
theorem s_unp3 {i j k : Nat} (h : EvC K l te ρ m fun m1 d => ∃ x y z,
      d = .tup [x, y, z] ∧ Nx m1 (((ρ.set i (some (.dat x))).set j
        (some (.dat y))).set k (some (.dat z)))) :
    SvC K l (tAsg te (g3 K i j k)) ρ m Nx Rt := by
  intro Z B H σ W ok kk _
  refine h Z B H σ _ ok fun v d m1 B1 H1 o1 f1 i1 g1 => ?_
  obtain ⟨x, y, z, rfl, q⟩ := g1
  cases i1 with
  | @tup a us _ hu r =>
    obtain ⟨u, w, v, rfl, h1, h2, h3⟩ := isAll3 r
    exact ⟨a, [u, w, v], rfl, sameT o1.sub hu, rfl, u, [w, v], rfl, w, [v],
      rfl, v, [], rfl, rfl,
      kk _ _ m1 B1 H1 (((o1.set h1).set h2).set h3) f1 q⟩
theorem s_unp3Own {i j k : Nat} (hij : i ≠ j) (hik : i ≠ k)
    (h : AvC K l tA ρ m fun m1 ds => ∃ y z, ds = [y, z] ∧
      Nx m1 (((ρ.set i (some (.own []))).set j (some (.dat y))).set k
        (some (.dat z)))) :
    SvC K l (tAsg (tTupC (tCons (tLst tNil) tA)) (g3 K i j k)) ρ m Nx Rt := by
  intro Z B H σ W ok kk _
  refine ⟨Nat.zero_le _, fun p hp => ?_⟩
  have hz : ¬ Z p := fun z => (ok.zs p z).1 hp
  refine h _ B _ σ _ (ok.aside (o := .lst []) hp)
    fun vs ds m1 B1 H1 o1 f1 i1 g1 => ?_
  obtain ⟨y, z, rfl, q⟩ := g1
  obtain ⟨v, w, rfl, h2, h3⟩ := isAll2 i1
  have hp1 : H1 p = some (.lst []) := (f1.kept p (.inr rfl)).trans upd_same
  refine ⟨by show 3 ≤ sizeLine; decide, fun T ob hT _ _ => ?_⟩
  obtain ⟨oJ, fJ⟩ := o1.junk (o := .frz ob (.tup [.ref p, v, w])) hT
  have npT : p ≠ T := fun e => by rw [e, hT] at hp1; cases hp1
  have hp2 : upd H1 T (.frz ob (.tup [.ref p, v, w])) p = some (.lst []) := by
    rw [upd_ne npT]; exact hp1
  have o2 := (((oJ.set (i := j) h2).set (i := k) h3).setOwn (i := i) hz hp2 .nil)
  rw [List.set_comm _ _ (Ne.symm hik), List.set_comm _ _ (Ne.symm hij),
    List.set_comm _ _ (Ne.symm hik) (l := ρ.set j _),
    List.set_comm _ _ (Ne.symm hij) (l := ρ)] at o2
  refine ⟨T, _, rfl, sqF upd_same, rfl, .ref p, [v, w], rfl, v, [w], rfl, w, [],
    rfl, rfl, kk _ _ m1 B1 _ o2 ?_ q⟩
  exact ⟨f1.sub, fun z hz' => (fJ.kept z (.inl hz')).trans
    ((f1.kept z (.inl hz')).trans (upd_ne fun e => hz (e ▸ hz')))⟩
theorem s_unp2Own {i j : Nat} (hij : i ≠ j)
    (h : AvC K l tA ρ m fun m1 ds => ∃ y, ds = [y] ∧
      Nx m1 ((ρ.set i (some (.own []))).set j (some (.dat y)))) :
    SvC K l (tAsg (tTupC (tCons (tLst tNil) tA)) (g2 K i j)) ρ m Nx Rt := by
  intro Z B H σ W ok kk _
  refine ⟨Nat.zero_le _, fun p hp => ?_⟩
  have hz : ¬ Z p := fun z => (ok.zs p z).1 hp
  refine h _ B _ σ _ (ok.aside (o := .lst []) hp)
    fun vs ds m1 B1 H1 o1 f1 i1 g1 => ?_
  obtain ⟨y, rfl, q⟩ := g1
  obtain ⟨v, rfl, h2⟩ := isAll1 i1
  have hp1 : H1 p = some (.lst []) := (f1.kept p (.inr rfl)).trans upd_same
  refine ⟨by show 2 ≤ sizeLine; decide, fun T ob hT _ _ => ?_⟩
  obtain ⟨oJ, fJ⟩ := o1.junk (o := .frz ob (.tup [.ref p, v])) hT
  have npT : p ≠ T := fun e => by rw [e, hT] at hp1; cases hp1
  have hp2 : upd H1 T (.frz ob (.tup [.ref p, v])) p = some (.lst []) := by
    rw [upd_ne npT]; exact hp1
  have o2 := ((oJ.set (i := j) h2).setOwn (i := i) hz hp2 .nil)
  rw [List.set_comm _ _ (Ne.symm hij),
    List.set_comm _ _ (Ne.symm hij) (l := ρ)] at o2
  refine ⟨T, _, rfl, sqF upd_same, rfl, .ref p, [v], rfl, v, [],
    rfl, rfl, kk _ _ m1 B1 _ o2 ?_ q⟩
  exact ⟨f1.sub, fun z hz' => (fJ.kept z (.inl hz')).trans
    ((f1.kept z (.inl hz')).trans (upd_ne fun e => hz (e ▸ hz')))⟩
end
end Wt

/-! A hand made amid an expression; walks over rows of pairs; is None. -/
namespace Wt
open PySem PySem.Spec PyProof.Rows L2
section
variable {K : PySem.W.Frag} {l : Option Addr} {ρ : Ro} {m : Nat}
variable {Φ : Nat → D → Prop} {Θ : Nat → Bool → Prop}
variable {Nx : Nat → Ro → Prop} {Rt : Nat → D → Prop} {ts tb : TS}
variable {ta te tl : TE} {t u : TT} {tA : TA}
variable {Z : Addr → Prop} {B H : Hp} {σ : L2.St}
/-- f(_law_hand(script, k)) -/
theorem e_handCall {pre : List D → Prop} {pre2 : Nat → List D → Prop}
    {Ψ : List D → Nat → Nat → D → Prop} {E E2 : XK} {j c : Nat}
    {ns : List Int} {n : Int} (hj : ρ[j]? = some (some (.dat (.scr ns))))
    (hc : ρ[c]? = some (some (.dat (.int n)))) (hp : pre [.scr ns, .int n])
    (hp2 : pre2 0 []) (q : ∀ m2 d, Ψ [] 0 m2 d → Φ m d) :
    EvC K none (tCall (SpH K pre2 Ψ) [] E2 (tCons (tCall (SpR K pre
      fun _ d => isHand d) [] E (tCons (tVar j) (tCons (tVar c) tNil))) tNil))
      ρ m Φ := by
  intro Z B H σ Q ok k
  obtain ⟨v1, e1, z1⟩ := ok.sl j _ hj
  obtain ⟨v2, e2, z2⟩ := ok.sl c _ hc
  refine ⟨v1, e1, v2, e2, ?_⟩
  cases z2
  cases z1 with
  | @scr s _ hs =>
    obtain ⟨B0, s0, hs0, hf⟩ : ∃ B0 : Hp, Same B0 B ∧
        Scr K B0 s (ns.map V.int) ∧
        ∀ b x, B0 b = some x → ∃ o u, x = .frz o u := by
      rcases hs with ⟨o, w⟩ | w
      · refine ⟨fun b => if b = s then B b else none, fun b x e => ?_,
          .inl ⟨o, (if_pos rfl).trans w⟩, fun b x e => ?_⟩
        · have e : (if b = s then B b else none) = some x := e
          by_cases y : b = s
          · rw [if_pos y] at e; exact e
          · rw [if_neg y] at e; cases e
        · have e : (if b = s then B b else none) = some x := e
          by_cases y : b = s
          · subst y
            rw [if_pos rfl, w] at e
            cases e
            exact ⟨_, _, rfl⟩
          · rw [if_neg y] at e; cases e
      · exact ⟨fun _ => none, fun b x e => (nomatch e), .inr w,
          fun b x e => (nomatch e)⟩
    have z0 : IsAll K B0 [V.ref s, .int n] [.scr ns, .int n] :=
      .cons (.scr hs0) (.cons (.int n) .nil)
    show SpR K pre (fun _ d => isHand d) ([V.ref s, .int n] ++ []) H _ E
    rw [List.append_nil]
    refine ⟨B0, _, s0.trans ok.sub, z0, hp, fun v d B2 H2 f1 f2 f3 f4 p iv => ?_⟩
    obtain ⟨g, sd, rfl, b1, b2, b3, b4⟩ := p
    cases iv with
    | @lst a xs _ ha is =>
      have ex : xs = [.int g, .int sd, .int 0] := by
        obtain ⟨x1, x2, x3, rfl, y1, y2, y3⟩ := isAll3 is
        cases y1
        cases y2
        cases y3
        rfl
      subst ex
      have fresh : H a = none := by
        cases w : H a with
        | none => rfl
        | some o =>
          exfalso
          cases y : B0 a with
          | none =>
            rw [f4 a (by rw [w]; exact nofun) y] at ha
            cases ha
          | some x =>
            obtain ⟨o', u, rfl⟩ := hf a x y
            rw [f1 a _ y] at ha
            cases ha
      have hB : B a = none := ok.same0 fresh
      have hh : Hand H2 a 0 :=
        ⟨g, sd, 0, f3 _ _ ha, b1, b2, b3, b4, by omega, by omega⟩
      refine ⟨a, [], B, [], 0, rfl, ok.sub.trans f2, hh, hB, .nil, hp2,
        fun v d m' B3 H3 h1 h2 h3 h4 h5 h6 h7 => ?_⟩
      have kp : ∀ b o, H b = some o → H3 b = some o := fun b o e =>
        h4 b o (fun w => by rw [w, fresh] at e; cases e) (f2 b o e)
      obtain ⟨o3, f3'⟩ := ok.step (B2 := B3) (H2 := H3) (m' := m) h2 h3
        (fun a e => (nomatch e)) (fun b o _ e => kp b o e)
        (fun b w e => h5 b (by
          cases y : H b with
          | none => exact absurd y w
          | some o => rw [f2 b o y]; exact nofun) e)
      exact k v d m B3 H3 o3 f3' h7 (q m' d h6)
/-- for a, b in a list of pairs -/
theorem s_forL2 {i j : Nat}
    (h : EvC K l tl ρ m fun m1 x => ∃ ds, x = .lst ds ∧
      ∃ I : Nat → Nat → Ro → Prop, I 0 m1 ρ ∧
      (∀ c n ρ' d, ds[c]? = some d → I c n ρ' → ∃ x y, d = .tup [x, y] ∧
        SvC K l tb ((ρ'.set i (some (.dat x))).set j (some (.dat y))) n
          (fun n2 ρ2 => I (c + 1) n2 ρ2) Rt) ∧
      ∀ n ρ', I ds.length n ρ' → Nx n ρ') :
    SvC K l (tFor (iList K tl) (g2 K i j) tb) ρ m Nx Rt := by
  intro Z B H σ W ok k jr
  refine h Z B H σ _ ok fun v x m1 B1 H1 o1 f1 i1 g1 => ?_
  obtain ⟨ds, rfl, I, h0, hs, hd⟩ := g1
  cases i1 with
  | @lst a xs ds hT is =>
    refine ⟨a, rfl, ⟨xs, SqL.of (o1.sub _ _ hT)⟩, ?_⟩
    refine for_list (xs := xs) (fun i σ' H' => ∃ n ρ' B',
      Ok K l Z n B' H' σ' ρ' ∧ Fr Z B1 H1 B' H' ∧ I i n ρ')
      ⟨m1, ρ, B1, o1, Fr.refl, h0⟩ (fun i σ' H' _ w => ?_)
      (fun c x σ' H' e w => ?_) fun σ' H' w => ?_
    · obtain ⟨n, ρ', B', ok', fr', _⟩ := w
      exact SqL.of (ok'.sub _ _ (fr'.sub _ _ hT))
    · obtain ⟨n, ρ', B', ok', fr', hI⟩ := w
      obtain ⟨d, e2, q⟩ := (is.mono fr'.sub).get e
      obtain ⟨y1, y2, rfl, hb⟩ := hs c n ρ' d e2 hI
      cases q with
      | @tup T us _ hu r =>
        obtain ⟨u, w, rfl, p1, p2⟩ := isAll2 r
        refine ⟨T, [u, w], rfl, sameT ok'.sub hu, rfl, u, [w], rfl, w, [], rfl,
          rfl, ?_⟩
        refine hb Z B' H' _ _ ((ok'.set p1).set p2)
          (fun σ2 ρ2 m2 B2 H2 o2 f2 g2 => ⟨m2, ρ2, B2, o2, fr'.trans f2, g2⟩)
          fun v d m2 B2 H2 o2 f2 i2 g2 => ?_
        exact jr v d m2 B2 H2 o2 ((f1.trans fr').trans f2) i2 g2
    · obtain ⟨n, ρ', B', ok', fr', hI⟩ := w
      rw [is.length] at hI
      exact k σ' ρ' n B' H' ok' (f1.trans fr') (hd n ρ' hI)
/-- for a, b in a tuple of pairs -/
theorem s_forT2 {i j : Nat}
    (h : EvC K l tl ρ m fun m1 x => ∃ ds, x = .tup ds ∧
      ∃ I : Nat → Nat → Ro → Prop, I 0 m1 ρ ∧
      (∀ c n ρ' d, ds[c]? = some d → I c n ρ' → ∃ x y, d = .tup [x, y] ∧
        SvC K l tb ((ρ'.set i (some (.dat x))).set j (some (.dat y))) n
          (fun n2 ρ2 => I (c + 1) n2 ρ2) Rt) ∧
      ∀ n ρ', I ds.length n ρ' → Nx n ρ') :
    SvC K l (tFor (iTup K tl) (g2 K i j) tb) ρ m Nx Rt := by
  intro Z B H σ W ok k jr
  refine h Z B H σ _ ok fun v x m1 B1 H1 o1 f1 i1 g1 => ?_
  obtain ⟨ds, rfl, I, h0, hs, hd⟩ := g1
  cases i1 with
  | @tup a xs ds hT is =>
    refine ⟨a, rfl, ⟨xs, sameT o1.sub hT⟩, ?_⟩
    refine for_tup (xs := xs) (fun i σ' H' => ∃ n ρ' B',
      Ok K l Z n B' H' σ' ρ' ∧ Fr Z B1 H1 B' H' ∧ I i n ρ')
      ⟨m1, ρ, B1, o1, Fr.refl, h0⟩ (fun i σ' H' _ w => ?_)
      (fun c x σ' H' e w => ?_) fun σ' H' w => ?_
    · obtain ⟨n, ρ', B', ok', fr', _⟩ := w
      exact sameT ok'.sub (sameT fr'.sub hT)
    · obtain ⟨n, ρ', B', ok', fr', hI⟩ := w
      obtain ⟨d, e2, q⟩ := (is.mono fr'.sub).get e
      obtain ⟨y1, y2, rfl, hb⟩ := hs c n ρ' d e2 hI
      cases q with
      | @tup T us _ hu r =>
        obtain ⟨u, w, rfl, p1, p2⟩ := isAll2 r
        refine ⟨T, [u, w], rfl, sameT ok'.sub hu, rfl, u, [w], rfl, w, [], rfl,
          rfl, ?_⟩
        refine hb Z B' H' _ _ ((ok'.set p1).set p2)
          (fun σ2 ρ2 m2 B2 H2 o2 f2 g2 => ⟨m2, ρ2, B2, o2, fr'.trans f2, g2⟩)
          fun v d m2 B2 H2 o2 f2 i2 g2 => ?_
        exact jr v d m2 B2 H2 o2 ((f1.trans fr').trans f2) i2 g2
    · obtain ⟨n, ρ', B', ok', fr', hI⟩ := w
      rw [is.length] at hI
      exact k σ' ρ' n B' H' ok' (f1.trans fr') (hd n ρ' hI)
/-- a turn of a comprehension over rows of pairs -/
theorem lcw_pair {A : Addr} {I : Nat → Nat → List D → Prop} {c i j : Nat}
    {x : V} {H' : Hp} {P : D → D → Prop} (hz : ¬ Z A)
    (hi : ρ[i]? = some none) (hj : ρ[j]? = some none) (hij : i ≠ j)
    (w : LcW K l Z ρ σ B H A I c H')
    (hx : ∀ B', Same B B' → ∃ d e, Is K B' x (.tup [d, e]) ∧ P d e)
    (hc : c < 100000)
    (he : ∀ d e n acc, P d e → I c n acc → acc.length = c →
      EvC K l te ((ρ.set i (some (.dat d))).set j (some (.dat e))) n
        fun n2 y => I (c + 1) n2 (acc ++ [y])) :
    g2 K i j x (wipe σ [i, j]) H' fun σ2 H2 =>
      wipe σ2 [i, j] = wipe σ [i, j] ∧ tYes σ2 H2 fun b H3 =>
        if b = true then te σ2 H3 fun y H4 =>
          ∃ acc, H4 A = some (.lst acc) ∧ acc.length < sizeLine ∧
            LcW K l Z ρ σ B H A I (c + 1) (upd H4 A (.lst (acc ++ [y])))
        else LcW K l Z ρ σ B H A I (c + 1) H3 := by
  obtain ⟨n, acc, xs, B', ok, fr, hA, is, hI, hl⟩ := w
  obtain ⟨d, e, hd, hP⟩ := hx B' fr.sub
  cases hd with
  | @tup T us _ hu r =>
    obtain ⟨u, v, rfl, p1, p2⟩ := isAll2 r
    refine ⟨T, [u, v], rfl, sameT ok.sub hu, rfl, u, [v], rfl, v, [], rfl,
      rfl, ?_⟩
    have e1 : ((wipe σ [i, j]).set i (some u)).set j (some v) =
        (σ.set i (some u)).set j (some v) := by
      show ((((σ.set j none).set i none).set i (some u)).set j (some v)) = _
      rw [List.set_set, List.set_comm _ _ hij, List.set_set,
        List.set_comm _ _ (Ne.symm hij)]
    have e2 : wipe ((σ.set i (some u)).set j (some v)) [i, j] =
        wipe σ [i, j] := by
      show (((σ.set i (some u)).set j (some v)).set j none).set i none =
        (σ.set j none).set i none
      rw [List.set_set, List.set_comm _ _ hij, List.set_set]
    unfold tYes
    dsimp only
    rw [e1, if_pos rfl]
    refine ⟨e2, ?_⟩
    refine he d e n acc hP hI hl _ B' _ _ _ ((ok.set p1).set p2)
      fun v y2 n2 B2 H2 o2 f2 i2 g2 => ?_
    have hA2 : H2 A = some (.lst xs) := (f2.kept A (.inr rfl)).trans hA
    have hj2 : (ρ.set i (some (.dat d)))[j]? = some none := by
      rw [List.getElem?_set_ne hij]; exact hj
    refine ⟨xs, hA2, ?_, n2, acc ++ [y2], xs ++ [v], B2,
      ((o2.unset hj2).unset hi).write (.inr rfl), ?_, upd_same,
      (is.mono f2.sub).append (.cons i2 .nil), g2, by simp [hl]⟩
    · rw [is.length, hl]
      exact Nat.lt_of_lt_of_le hc (by decide)
    · refine ⟨fr.sub.trans f2.sub, fun z hz' => ?_⟩
      rw [upd_ne (fun (e : z = A) => hz (e ▸ hz'))]
      exact (f2.kept z (.inl hz')).trans (fr.kept z hz')
/-- [e for a, b in a list of pairs] -/
theorem e_lcL2 {i j : Nat} (hi : ρ[i]? = some none) (hj : ρ[j]? = some none)
    (hij : i ≠ j)
    (h : EvC K l tl ρ m fun m1 x => ∃ ds, x = .lst ds ∧ ds.length ≤ 50000 ∧
      (∀ d ∈ ds, ∃ x y, d = .tup [x, y]) ∧
      ∃ I : Nat → Nat → List D → Prop, I 0 m1 [] ∧
      (∀ c n acc d e, ds[c]? = some (.tup [d, e]) → I c n acc →
        acc.length = c →
        EvC K l te ((ρ.set i (some (.dat d))).set j (some (.dat e))) n
          fun n2 y => I (c + 1) n2 (acc ++ [y])) ∧
      ∀ n acc, acc.length = ds.length → I ds.length n acc →
        Φ n (.lst acc)) :
    EvC K l (tLc (iList K tl) (g2 K i j) tYes te [i, j]) ρ m Φ := by
  intro Z B H σ Q ok k
  refine h Z B H σ _ ok fun v x m1 B1 H1 o1 f1 i1 g1 => ?_
  obtain ⟨ds, rfl, hl, hpr, I, h0, hs, hd⟩ := g1
  cases i1 with
  | @lst a xs ds hT is =>
    refine ⟨a, rfl, ⟨xs, SqL.of (o1.sub _ _ hT)⟩, fun A hA => ?_⟩
    have hz : ¬ Z A := fun z => (o1.zs A z).1 hA
    refine lc_list (xs := xs) (LcW K l Z ρ σ B1 H1 A I)
      (lcw_start o1 hA h0) (fun i H' _ w => ?_) (fun c x H' e w => ?_)
      fun H' w => ?_
    · obtain ⟨n, acc, ys, B', ok', fr', _⟩ := w
      exact SqL.of (ok'.sub _ _ (fr'.sub _ _ hT))
    · have hc : c < xs.length := (List.getElem?_eq_some_iff.mp e).1
      refine lcw_pair (P := fun d e => ds[c]? = some (.tup [d, e])) hz hi hj
        hij w (fun B' sb => ?_) (by rw [is.length] at hc; omega)
        fun d e n acc => hs c n acc d e
      obtain ⟨d, e2, q⟩ := (is.mono sb).get e
      obtain ⟨y1, y2, rfl⟩ := hpr d (List.mem_of_getElem? e2)
      exact ⟨y1, y2, q, e2⟩
    · rw [is.length] at w
      exact lcw_end hz w hd fun v d m' B2 H2 o2 f2 i2 g2 =>
        k v d m' B2 H2 o2 (f1.trans f2) i2 g2
def D.isNon : D → Bool
  | .non => true
  | _ => false
theorem v_isN {d : D} (q : Φ m (.bl d.isNon)) :
    VvC K l ρ (fun vs H Q => ∃ x y, vs = [x, y] ∧ rIsN x y H Q)
      [d, .non] m Φ := by
  intro Z B H σ vs Q ok is k
  obtain ⟨v, w, rfl, h, h2⟩ := isAll2 is
  cases h2
  refine ⟨_, _, rfl, rfl, k _ _ m B H ok Fr.refl (.bl _) ?_⟩
  have e : decide (v = V.non) = d.isNon := by
    cases h <;> rfl
  rw [e]
  exact q
theorem v_notN {d : D} (q : Φ m (.bl (!d.isNon))) :
    VvC K l ρ (fun vs H Q => ∃ x y, vs = [x, y] ∧ rNotN x y H Q)
      [d, .non] m Φ := by
  intro Z B H σ vs Q ok is k
  obtain ⟨v, w, rfl, h, h2⟩ := isAll2 is
  cases h2
  refine ⟨_, _, rfl, rfl, k _ _ m B H ok Fr.refl (.bl _) ?_⟩
  have e : decide (v = V.non) = d.isNon := by
    cases h <;> rfl
  rw [e]
  exact q
end
end Wt

/-! Quick rules: rows made item by item, told by a function or by what each item is; loops that tell some slots anew. -/
namespace Wt
open PySem PySem.Spec PyProof.Rows L2
theorem r_map0 {α β : Type} {f : α → β} : List.map f [] = [] := rfl
theorem r_map1 {α β : Type} {f : α → β} {a : α} {l : List α} :
    List.map f (a :: l) = f a :: List.map f l := rfl
theorem r_app0 {α : Type} {l : List α} : [] ++ l = l := rfl
theorem r_app1 {α : Type} {a : α} {k l : List α} :
    (a :: k) ++ l = a :: (k ++ l) := rfl
theorem r_set0 {α : Type} {a x : α} {l : List α} :
    (a :: l).set 0 x = x :: l := rfl
theorem r_set1 {α : Type} {a x : α} {l : List α} {n : Nat} :
    (a :: l).set (n + 1) x = a :: l.set n x := rfl
theorem r_rep0 {α : Type} {x : α} : List.replicate 0 x = [] := rfl
theorem r_rep1 {α : Type} {x : α} {n : Nat} :
    List.replicate (n + 1) x = x :: List.replicate n x := rfl
/-- some slots told anew -/
def put (ρ : Ro) : List Nat → List (Option Sl) → Ro
  | i :: is, x :: xs => put (ρ.set i x) is xs
  | _, _ => ρ
theorem dmap_of {α : Type} {g : α → D} : ∀ {ys : List D}
    {P : Nat → α → Prop},
    (∀ (i : Nat) y, ys[i]? = some y → ∃ x, y = g x ∧ P i x) →
    ∃ xs : List α, ys = xs.map g ∧ ∀ (i : Nat) x, xs[i]? = some x → P i x
  | [], _, _ => ⟨[], rfl, fun i x h => by simp at h⟩
  | y :: ys, P, h => by
    obtain ⟨x, rfl, hx⟩ := h 0 y rfl
    obtain ⟨xs, rfl, hs⟩ := dmap_of (ys := ys) (P := fun i => P (i + 1))
      fun i y e => h (i + 1) y (by rw [List.getElem?_cons_succ]; exact e)
    refine ⟨x :: xs, rfl, fun i z e => ?_⟩
    cases i with
    | zero => cases e; exact hx
    | succ i => rw [List.getElem?_cons_succ] at e; exact hs i z e
theorem take_snoc' {α : Type} {xs : List α} {c : Nat} {x : α}
    (h : xs[c]? = some x) : xs.take (c + 1) = xs.take c ++ [x] := by
  rw [List.take_add_one, h]; rfl
theorem get_snoc {α : Type} {P : Nat → α → Prop} {xs : List α} {y : α}
    {c : Nat} (hl : xs.length = c) (h : ∀ (i : Nat) x, xs[i]? = some x → P i x)
    (hy : P c y) : ∀ (i : Nat) x, (xs ++ [y])[i]? = some x → P i x := by
  intro i x e
  by_cases hi : i < xs.length
  · rw [List.getElem?_append_left hi] at e
    exact h i x e
  · have : i = c := by
      have := (List.getElem?_eq_some_iff.mp e).1
      simp at this
      omega
    subst this
    rw [List.getElem?_append_right (by omega)] at e
    have e0 : i - xs.length = 0 := by omega
    rw [e0] at e
    cases e
    exact hy
section
variable {K : PySem.W.Frag} {l : Option Addr} {ρ : Ro} {m : Nat}
variable {Φ : Nat → D → Prop} {Θ : Nat → Bool → Prop}
variable {Nx : Nat → Ro → Prop} {Rt : Nat → D → Prop} {ts tb : TS}
variable {ta te tl : TE} {t u : TT} {tA tK : TA}
/-! ### rows told by a function -/
theorem e_lcRf {j : Nat} (hj : ρ[j]? = some none)
    (h : AvC K l tA ρ m fun m1 x => ∃ z : Int, x = [.int z] ∧
      ∃ (c : Nat) (f : Nat → D), z = c ∧ c ≤ 50000 ∧
      (∀ i : Nat, i < c → EvC K l te (ρ.set j (some (.dat (.int i)))) m1
        fun n2 y => n2 = m1 ∧ y = f i) ∧
      Φ m1 (.lst ((List.range c).map f))) :
    EvC K l (tLc (iRng1 tA) (gName j) tYes te [j]) ρ m Φ := by
  refine e_lcR hj (a_imp h fun m1 x q => ?_)
  obtain ⟨z, rfl, c, f, rfl, hc, hb, hq⟩ := q
  refine ⟨_, rfl, by omega, by omega, fun i n acc => n = m1 ∧
    acc = ((List.range c).map f).take i, ⟨rfl, rfl⟩, ?_, ?_⟩
  · intro i n acc hi hI _
    rw [Int.toNat_natCast] at hi
    obtain ⟨rfl, rfl⟩ := hI
    refine e_imp (hb i hi) fun n2 y q => ?_
    obtain ⟨rfl, rfl⟩ := q
    refine ⟨rfl, (take_snoc' ?_).symm⟩
    rw [List.getElem?_map, List.getElem?_range hi]; rfl
  · intro n acc hl hI
    obtain ⟨rfl, rfl⟩ := hI
    rw [Int.toNat_natCast, List.take_of_length_le (by simp)]
    exact hq
theorem e_lcTf {j : Nat} (hj : ρ[j]? = some none)
    (h : EvC K l tl ρ m fun m1 x => ∃ ds, x = .tup ds ∧
      ∃ (α : Type) (xs : List α) (g f : α → D), ds = xs.map g ∧
      xs.length ≤ 50000 ∧
      (∀ (i : Nat) a, xs[i]? = some a →
        EvC K l te (ρ.set j (some (.dat (g a)))) m1
          fun n2 y => n2 = m1 ∧ y = f a) ∧ Φ m1 (.lst (xs.map f))) :
    EvC K l (tLc (iTup K tl) (gName j) tYes te [j]) ρ m Φ := by
  refine e_lcT hj (e_imp h fun m1 x q => ?_)
  obtain ⟨ds, rfl, α, xs, g, f, rfl, hc, hb, hq⟩ := q
  refine ⟨_, rfl, by rw [List.length_map]; exact hc, fun i n acc => n = m1 ∧
    acc = (xs.map f).take i, ⟨rfl, rfl⟩, ?_, ?_⟩
  · intro i n acc d hd hI _
    obtain ⟨rfl, rfl⟩ := hI
    rw [List.getElem?_map] at hd
    cases e : xs[i]? with
    | none => rw [e] at hd; cases hd
    | some a =>
      rw [e] at hd
      cases hd
      refine e_imp (hb i a e) fun n2 y q => ?_
      obtain ⟨rfl, rfl⟩ := q
      refine ⟨rfl, (take_snoc' ?_).symm⟩
      rw [List.getElem?_map, e]; rfl
  · intro n acc hl hI
    obtain ⟨rfl, rfl⟩ := hI
    rw [List.length_map, List.take_of_length_le (by simp)]
    exact hq
theorem e_lcLf {j : Nat} (hj : ρ[j]? = some none)
    (h : EvC K l tl ρ m fun m1 x => ∃ ds, x = .lst ds ∧
      ∃ (α : Type) (xs : List α) (g f : α → D), ds = xs.map g ∧
      xs.length ≤ 50000 ∧
      (∀ (i : Nat) a, xs[i]? = some a →
        EvC K l te (ρ.set j (some (.dat (g a)))) m1
          fun n2 y => n2 = m1 ∧ y = f a) ∧ Φ m1 (.lst (xs.map f))) :
    EvC K l (tLc (iList K tl) (gName j) tYes te [j]) ρ m Φ := by
  refine e_lcL hj (e_imp h fun m1 x q => ?_)
  obtain ⟨ds, rfl, α, xs, g, f, rfl, hc, hb, hq⟩ := q
  refine ⟨_, rfl, by rw [List.length_map]; exact hc, fun i n acc => n = m1 ∧
    acc = (xs.map f).take i, ⟨rfl, rfl⟩, ?_, ?_⟩
  · intro i n acc d hd hI _
    obtain ⟨rfl, rfl⟩ := hI
    rw [List.getElem?_map] at hd
    cases e : xs[i]? with
    | none => rw [e] at hd; cases hd
    | some a =>
      rw [e] at hd
      cases hd
      refine e_imp (hb i a e) fun n2 y q => ?_
      obtain ⟨rfl, rfl⟩ := q
      refine ⟨rfl, (take_snoc' ?_).symm⟩
      rw [List.getElem?_map, e]; rfl
  · intro n acc hl hI
    obtain ⟨rfl, rfl⟩ := hI
    rw [List.length_map, List.take_of_length_le (by simp)]
    exact hq
/-! ### rows of which each item is told -/
theorem e_lcRd {j : Nat} (hj : ρ[j]? = some none)
    (h : AvC K l tA ρ m fun m1 x => ∃ z : Int, x = [.int z] ∧
      ∃ (c k : Nat) (P : Nat → D → Prop), z = c ∧ c ≤ 50000 ∧
      (∀ i n : Nat, i < c → n ≤ m1 + k * i →
        EvC K l te (ρ.set j (some (.dat (.int i)))) n
          fun n2 y => n2 ≤ n + k ∧ P i y) ∧
      ∀ n ys, n ≤ m1 + k * c → ys.length = c →
        (∀ (i : Nat) y, ys[i]? = some y → P i y) → Φ n (.lst ys)) :
    EvC K l (tLc (iRng1 tA) (gName j) tYes te [j]) ρ m Φ := by
  refine e_lcR hj (a_imp h fun m1 x q => ?_)
  obtain ⟨z, rfl, c, k, P, rfl, hc, hb, hq⟩ := q
  refine ⟨_, rfl, by omega, by omega, fun i n acc => n ≤ m1 + k * i ∧
    ∀ (i : Nat) y, acc[i]? = some y → P i y,
    ⟨Nat.le_add_right _ _, fun i y e => by simp at e⟩, ?_, ?_⟩
  · intro i n acc hi hI hal
    rw [Int.toNat_natCast] at hi
    refine e_imp (hb i n hi hI.1) fun n2 y q => ⟨?_, get_snoc hal hI.2 q.2⟩
    have := hI.1
    have := q.1
    rw [Nat.mul_add, Nat.mul_one]
    omega
  · intro n acc hl hI
    rw [Int.toNat_natCast] at hl hI
    exact hq n acc hI.1 hl hI.2
theorem e_lcTd {j : Nat} (hj : ρ[j]? = some none)
    (h : EvC K l tl ρ m fun m1 x => ∃ ds, x = .tup ds ∧
      ∃ (k : Nat) (P : Nat → D → Prop), ds.length ≤ 50000 ∧
      (∀ (i n : Nat) d, ds[i]? = some d → n ≤ m1 + k * i →
        EvC K l te (ρ.set j (some (.dat d))) n
          fun n2 y => n2 ≤ n + k ∧ P i y) ∧
      ∀ n ys, n ≤ m1 + k * ds.length → ys.length = ds.length →
        (∀ (i : Nat) y, ys[i]? = some y → P i y) → Φ n (.lst ys)) :
    EvC K l (tLc (iTup K tl) (gName j) tYes te [j]) ρ m Φ := by
  refine e_lcT hj (e_imp h fun m1 x q => ?_)
  obtain ⟨ds, rfl, k, P, hc, hb, hq⟩ := q
  refine ⟨_, rfl, hc, fun i n acc => n ≤ m1 + k * i ∧
    ∀ (i : Nat) y, acc[i]? = some y → P i y,
    ⟨Nat.le_add_right _ _, fun i y e => by simp at e⟩, ?_, ?_⟩
  · intro i n acc d hi hI hal
    refine e_imp (hb i n d hi hI.1) fun n2 y q => ⟨?_, get_snoc hal hI.2 q.2⟩
    have := hI.1
    have := q.1
    rw [Nat.mul_add, Nat.mul_one]
    omega
  · intro n acc hl hI
    exact hq n acc hI.1 hl hI.2
theorem e_lcLd {j : Nat} (hj : ρ[j]? = some none)
    (h : EvC K l tl ρ m fun m1 x => ∃ ds, x = .lst ds ∧
      ∃ (k : Nat) (P : Nat → D → Prop), ds.length ≤ 50000 ∧
      (∀ (i n : Nat) d, ds[i]? = some d → n ≤ m1 + k * i →
        EvC K l te (ρ.set j (some (.dat d))) n
          fun n2 y => n2 ≤ n + k ∧ P i y) ∧
      ∀ n ys, n ≤ m1 + k * ds.length → ys.length = ds.length →
        (∀ (i : Nat) y, ys[i]? = some y → P i y) → Φ n (.lst ys)) :
    EvC K l (tLc (iList K tl) (gName j) tYes te [j]) ρ m Φ := by
  refine e_lcL hj (e_imp h fun m1 x q => ?_)
  obtain ⟨ds, rfl, k, P, hc, hb, hq⟩ := q
  refine ⟨_, rfl, hc, fun i n acc => n ≤ m1 + k * i ∧
    ∀ (i : Nat) y, acc[i]? = some y → P i y,
    ⟨Nat.le_add_right _ _, fun i y e => by simp at e⟩, ?_, ?_⟩
  · intro i n acc d hi hI hal
    refine e_imp (hb i n d hi hI.1) fun n2 y q => ⟨?_, get_snoc hal hI.2 q.2⟩
    have := hI.1
    have := q.1
    rw [Nat.mul_add, Nat.mul_one]
    omega
  · intro n acc hl hI
    exact hq n acc hI.1 hl hI.2
/-! ### all of them -/
theorem bl_map : ∀ {ys : List D}, (∀ y ∈ ys, y = .bl true) →
    ys = (List.replicate ys.length true).map D.bl
  | [], _ => rfl
  | y :: ys, h => by
    have h1 := h y List.mem_cons_self
    have h2 := bl_map fun z hz => h z (List.mem_cons_of_mem _ hz)
    subst h1
    rw [List.length_cons, List.replicate_succ, List.map_cons, ← h2]
theorem v_allT {ys : List D} (h : ∀ (i : Nat) y, ys[i]? = some y → y = .bl true)
    (q : Φ m (.bl true)) : VvC K l ρ (rAll K) [.lst ys] m Φ := by
  have e := bl_map (ys := ys) fun y hy => by
    obtain ⟨i, hi⟩ := List.getElem?_of_mem hy
    exact h i y hi
  rw [e]
  refine v_all ?_
  rw [List.all_replicate]
  simpa using q
theorem v_allM {α : Type} {xs : List α} {p : α → Bool}
    (q : Φ m (.bl (xs.all p))) :
    VvC K l ρ (rAll K) [.lst (xs.map fun x => .bl (p x))] m Φ := by
  have e : (xs.map fun x => D.bl (p x)) = (xs.map p).map D.bl := by
    rw [List.map_map]; rfl
  rw [e]
  refine v_all ?_
  rw [List.all_map]
  exact q
/-! ### loops -/
theorem s_forRw {j : Nat}
    (h : AvC K l tA ρ m fun m1 x => ∃ z : Int, x = [.int z] ∧
      ∃ (c k : Nat) (W : List Nat) (R : Nat → List (Option Sl) → Prop)
        (xs0 : List (Option Sl)), z = c ∧ c < 2 ^ 62 ∧
      xs0.length = W.length ∧ ρ = put ρ W xs0 ∧ R 0 xs0 ∧
      (∀ (i n : Nat) xs, i < c → n ≤ m1 + k * i → xs.length = W.length →
        R i xs → SvC K l tb ((put ρ W xs).set j (some (.dat (.int i)))) n
          (fun n2 ρ2 => n2 ≤ n + k ∧ ∃ xs', xs'.length = W.length ∧
            ρ2 = put ρ W xs' ∧ R (i + 1) xs') Rt) ∧
      ∀ n xs, n ≤ m1 + k * c → xs.length = W.length → R c xs →
        Nx n (put ρ W xs)) :
    SvC K l (tFor (iRng1 tA) (gName j) tb) ρ m Nx Rt := by
  refine s_forR (a_imp h fun m1 x q => ?_)
  obtain ⟨z, rfl, c, k, W, R, xs0, rfl, hc, hl0, e0, h0, hb, hq⟩ := q
  refine ⟨_, rfl, by omega, by omega, fun i n ρ' => n ≤ m1 + k * i ∧
    ∃ xs, xs.length = W.length ∧ ρ' = put ρ W xs ∧ R i xs,
    ⟨Nat.le_add_right _ _, xs0, hl0, e0, h0⟩, ?_, ?_⟩
  · intro i n ρ' hi hI
    rw [Int.toNat_natCast] at hi
    obtain ⟨hn, xs, hx, rfl, hR⟩ := hI
    refine s_imp (hb i n xs hi hn hx hR) (fun n2 ρ2 q => ⟨?_, q.2⟩)
      fun n d q => q
    have := q.1
    rw [Nat.mul_add, Nat.mul_one]
    omega
  · intro n ρ' hI
    rw [Int.toNat_natCast] at hI
    obtain ⟨hn, xs, hx, rfl, hR⟩ := hI
    exact hq n xs hn hx hR
theorem s_forTw {j : Nat}
    (h : EvC K l tl ρ m fun m1 x => ∃ ds, x = .tup ds ∧
      ∃ (k : Nat) (W : List Nat) (R : Nat → List (Option Sl) → Prop)
        (xs0 : List (Option Sl)),
      xs0.length = W.length ∧ ρ = put ρ W xs0 ∧ R 0 xs0 ∧
      (∀ (i n : Nat) d xs, ds[i]? = some d → n ≤ m1 + k * i →
        xs.length = W.length → R i xs →
        SvC K l tb ((put ρ W xs).set j (some (.dat d))) n
          (fun n2 ρ2 => n2 ≤ n + k ∧ ∃ xs', xs'.length = W.length ∧
            ρ2 = put ρ W xs' ∧ R (i + 1) xs') Rt) ∧
      ∀ n xs, n ≤ m1 + k * ds.length → xs.length = W.length →
        R ds.length xs → Nx n (put ρ W xs)) :
    SvC K l (tFor (iTup K tl) (gName j) tb) ρ m Nx Rt := by
  refine s_forT (e_imp h fun m1 x q => ?_)
  obtain ⟨ds, rfl, k, W, R, xs0, hl0, e0, h0, hb, hq⟩ := q
  refine ⟨_, rfl, fun i n ρ' => n ≤ m1 + k * i ∧
    ∃ xs, xs.length = W.length ∧ ρ' = put ρ W xs ∧ R i xs,
    ⟨Nat.le_add_right _ _, xs0, hl0, e0, h0⟩, ?_, ?_⟩
  · intro i n ρ' d hi hI
    obtain ⟨hn, xs, hx, rfl, hR⟩ := hI
    refine s_imp (hb i n d xs hi hn hx hR) (fun n2 ρ2 q => ⟨?_, q.2⟩)
      fun n d q => q
    have := q.1
    rw [Nat.mul_add, Nat.mul_one]
    omega
  · intro n ρ' hI
    obtain ⟨hn, xs, hx, rfl, hR⟩ := hI
    exact hq n xs hn hx hR
theorem s_forLw {j : Nat}
    (h : EvC K l tl ρ m fun m1 x => ∃ ds, x = .lst ds ∧
      ∃ (k : Nat) (W : List Nat) (R : Nat → List (Option Sl) → Prop)
        (xs0 : List (Option Sl)),
      xs0.length = W.length ∧ ρ = put ρ W xs0 ∧ R 0 xs0 ∧
      (∀ (i n : Nat) d xs, ds[i]? = some d → n ≤ m1 + k * i →
        xs.length = W.length → R i xs →
        SvC K l tb ((put ρ W xs).set j (some (.dat d))) n
          (fun n2 ρ2 => n2 ≤ n + k ∧ ∃ xs', xs'.length = W.length ∧
            ρ2 = put ρ W xs' ∧ R (i + 1) xs') Rt) ∧
      ∀ n xs, n ≤ m1 + k * ds.length → xs.length = W.length →
        R ds.length xs → Nx n (put ρ W xs)) :
    SvC K l (tFor (iList K tl) (gName j) tb) ρ m Nx Rt := by
  refine s_forL (e_imp h fun m1 x q => ?_)
  obtain ⟨ds, rfl, k, W, R, xs0, hl0, e0, h0, hb, hq⟩ := q
  refine ⟨_, rfl, fun i n ρ' => n ≤ m1 + k * i ∧
    ∃ xs, xs.length = W.length ∧ ρ' = put ρ W xs ∧ R i xs,
    ⟨Nat.le_add_right _ _, xs0, hl0, e0, h0⟩, ?_, ?_⟩
  · intro i n ρ' d hi hI
    obtain ⟨hn, xs, hx, rfl, hR⟩ := hI
    refine s_imp (hb i n d xs hi hn hx hR) (fun n2 ρ2 q => ⟨?_, q.2⟩)
      fun n d q => q
    have := q.1
    rw [Nat.mul_add, Nat.mul_one]
    omega
  · intro n ρ' hI
    obtain ⟨hn, xs, hx, rfl, hR⟩ := hI
    exact hq n xs hn hx hR
theorem s_forL2w {i j : Nat}
    (h : EvC K l tl ρ m fun m1 x => ∃ ds, x = .lst ds ∧
      ∃ (k : Nat) (W : List Nat) (R : Nat → List (Option Sl) → Prop)
        (xs0 : List (Option Sl)),
      xs0.length = W.length ∧ ρ = put ρ W xs0 ∧ R 0 xs0 ∧
      (∀ (c n : Nat) d xs, ds[c]? = some d → n ≤ m1 + k * c →
        xs.length = W.length → R c xs → ∃ x y, d = .tup [x, y] ∧
        SvC K l tb (((put ρ W xs).set i (some (.dat x))).set j
            (some (.dat y))) n
          (fun n2 ρ2 => n2 ≤ n + k ∧ ∃ xs', xs'.length = W.length ∧
            ρ2 = put ρ W xs' ∧ R (c + 1) xs') Rt) ∧
      ∀ n xs, n ≤ m1 + k * ds.length → xs.length = W.length →
        R ds.length xs → Nx n (put ρ W xs)) :
    SvC K l (tFor (iList K tl) (g2 K i j) tb) ρ m Nx Rt := by
  refine s_forL2 (e_imp h fun m1 x q => ?_)
  obtain ⟨ds, rfl, k, W, R, xs0, hl0, e0, h0, hb, hq⟩ := q
  refine ⟨_, rfl, fun i n ρ' => n ≤ m1 + k * i ∧
    ∃ xs, xs.length = W.length ∧ ρ' = put ρ W xs ∧ R i xs,
    ⟨Nat.le_add_right _ _, xs0, hl0, e0, h0⟩, ?_, ?_⟩
  · intro c n ρ' d hi hI
    obtain ⟨hn, xs, hx, rfl, hR⟩ := hI
    obtain ⟨x, y, rfl, hb'⟩ := hb c n d xs hi hn hx hR
    refine ⟨x, y, rfl, s_imp hb' (fun n2 ρ2 q => ⟨?_, q.2⟩)
      fun n d q => q⟩
    have := q.1
    rw [Nat.mul_add, Nat.mul_one]
    omega
  · intro n ρ' hI
    obtain ⟨hn, xs, hx, rfl, hR⟩ := hI
    exact hq n xs hn hx hR
theorem s_forZw {i j : Nat}
    (h : AvC K l tA ρ m fun m1 as => ∃ xs ys, as = [.tup xs, .tup ys] ∧
      ∃ (k : Nat) (W : List Nat) (R : Nat → List (Option Sl) → Prop)
        (xs0 : List (Option Sl)),
      xs0.length = W.length ∧ ρ = put ρ W xs0 ∧ R 0 xs0 ∧
      (∀ (c n : Nat) d e zs, xs[c]? = some d → ys[c]? = some e →
        n ≤ m1 + k * c → zs.length = W.length → R c zs →
        SvC K l tb (((put ρ W zs).set i (some (.dat d))).set j
            (some (.dat e))) n
          (fun n2 ρ2 => n2 ≤ n + k ∧ ∃ xs', xs'.length = W.length ∧
            ρ2 = put ρ W xs' ∧ R (c + 1) xs') Rt) ∧
      ∀ n zs, n ≤ m1 + k * min xs.length ys.length → zs.length = W.length →
        R (min xs.length ys.length) zs → Nx n (put ρ W zs)) :
    SvC K l (tFor (RZ.iZipA K tA) (g2 K i j) tb) ρ m Nx Rt := by
  refine s_forZ (a_imp h fun m1 x q => ?_)
  obtain ⟨xs, ys, rfl, k, W, R, xs0, hl0, e0, h0, hb, hq⟩ := q
  refine ⟨_, _, rfl, fun i n ρ' => n ≤ m1 + k * i ∧
    ∃ xs, xs.length = W.length ∧ ρ' = put ρ W xs ∧ R i xs,
    ⟨Nat.le_add_right _ _, xs0, hl0, e0, h0⟩, ?_, ?_⟩
  · intro c n ρ' d e hd he hI
    obtain ⟨hn, xs, hx, rfl, hR⟩ := hI
    refine s_imp (hb c n d e xs hd he hn hx hR) (fun n2 ρ2 q => ⟨?_, q.2⟩)
      fun n d q => q
    have := q.1
    rw [Nat.mul_add, Nat.mul_one]
    omega
  · intro n ρ' hI
    obtain ⟨hn, xs, hx, rfl, hR⟩ := hI
    exact hq n xs hn hx hR
/-- an item, by a number from 0 -/
theorem v_ixN {ds : List D} {d : D} {c : Nat} (hd : ds[c]? = some d)
    (q : Φ m d) :
    VvC K l ρ (fun vs H Q => ∃ x y, vs = [x, y] ∧ rIxT K x y H Q)
      [.tup ds, .int (c : Int)] m Φ :=
  v_ixT (by omega) (by rw [Int.toNat_natCast]; exact hd) q
theorem v_ixNL {ds : List D} {d : D} {c : Nat} (hd : ds[c]? = some d)
    (q : Φ m d) :
    VvC K l ρ (fun vs H Q => ∃ x y, vs = [x, y] ∧ rIxL K x y H Q)
      [.lst ds, .int (c : Int)] m Φ :=
  v_ixL (by omega) (by rw [Int.toNat_natCast]; exact hd) q
/-! two of the same -/
theorem v_neSame {a : Str} (q : Φ m (.bl false)) :
    VvC K l ρ (fun vs H Q => ∃ x y, vs = [x, y] ∧ rNe x y H Q)
      [.str a, .str a] m Φ :=
  v_neS (by rw [decide_eq_true rfl]; exact q)
theorem v_eqSame {a : Str} (q : Φ m (.bl true)) :
    VvC K l ρ (fun vs H Q => ∃ x y, vs = [x, y] ∧ rEq x y H Q)
      [.str a, .str a] m Φ :=
  v_eqS (by rw [decide_eq_true rfl]; exact q)
theorem v_isNn (q : Φ m (.bl true)) :
    VvC K l ρ (fun vs H Q => ∃ x y, vs = [x, y] ∧ rIsN x y H Q)
      [.non, .non] m Φ := v_isN q
theorem v_neDs {a : D} {k w : Nat} (h : Num k w a) (hk : k ≤ 64)
    (q : Φ m (.bl false)) :
    VvC K l ρ (fun vs H Q => ∃ x y, vs = [x, y] ∧ rNeD K x y H Q)
      [a, a] m Φ :=
  v_neD (h.eqs hk) (h.eqs hk) (by rw [h.same]; exact q)
theorem v_eqDs {a : D} {k w : Nat} (h : Num k w a) (hk : k ≤ 64)
    (q : Φ m (.bl true)) :
    VvC K l ρ (fun vs H Q => ∃ x y, vs = [x, y] ∧ rEqD K x y H Q)
      [a, a] m Φ :=
  v_eqD (h.eqs hk) (h.eqs hk) (by rw [h.same]; exact q)
theorem v_eqDn {a b : D} {k w k' w' : Nat} (h : Num k w a) (h' : Num k' w' b)
    (hk : k ≤ 64) (hk' : k' ≤ 64) [Decidable (a = b)]
    (q : Φ m (.bl (decide (a = b)))) :
    VvC K l ρ (fun vs H Q => ∃ x y, vs = [x, y] ∧ rEqD K x y H Q)
      [a, b] m Φ := by
  refine v_eqD (h.eqs hk) (h'.eqs hk') ?_
  have e : PyData.eqv a.py b.py = decide (a = b) := by
    rw [Bool.eq_iff_iff, h.eqv h', decide_eq_true_eq]
  rw [e]
  exact q
end
end Wt

/-! enumerate of a tuple. -/
namespace Wt
open PySem PySem.Spec PyProof.Rows L2
def ItET (K : PySem.W.Frag) (a : Addr) : It where
  go := fun i H => ∃ xs : List V, SqT K H a xs ∧ i < xs.length
  yld := fun i H v H' => ∃ T x, v = .ref T ∧ H T = none ∧
    H' = upd H T (.tup [.int (i : Nat), x]) ∧
    ∀ xs, SqT K H a xs → xs[i]? = some x
  stop := fun i H => ∃ xs : List V, SqT K H a xs ∧ i = xs.length
def tnE (n a i : Nat) (h : Heap) : Prop :=
  (∃ old, IsEnum h (n + 1) n ((0 : Int) + (i : Int)) old) ∧
    h.IsTupleIter n a i
theorem goesE {prog : Program} {w : World} {A : Around} {elts : List Expr}
    {k : Nat} {pos : Pos} {n a : Nat} (hh : A.handled = none) (ha : a < n)
    (xs : Array Value) :
    GoesN prog w A (.Tuple elts k pos) (n + 1) ((n + 1) :: [n, a])
      [n + 1, n] xs.size
      (fun i h0 v h => ∃ T t x, v = .ref T ∧ h0.objs.size ≤ T ∧
        xs[i]? = some x ∧ h.IsTuple T #[.int ((0 : Int) + (i : Int)) t, x])
      (fun i h => (∃ old, IsEnum h (n + 1) n ((0 : Int) + (i : Int)) old) ∧
        h.IsTupleIter n a i ∧ h.IsTuple a xs) :=
  GoesN.enumFrom 0
    (Draws.tuple (A := A.in1) hh n a (Nat.ne_of_lt ha) xs) (n + 1)
    (Nat.succ_ne_self n)
    (by
      intro z
      simp only [List.mem_cons, List.not_mem_nil, or_false] at z
      rcases z with z | z <;> (have z : (_ : Nat) = _ := z; omega))
    List.mem_cons_self
theorem turnE {P : Program} {w : World} {K : PySem.W.Frag}
    {elts : List Expr} {kk : Nat} {tpos : Pos} {n a : Nat} (ha : a < n) :
    Turn P w K (.Tuple elts kk tpos) (ItET K a) [n + 1, n] (n + 1)
      (tnE n a) where
  mem := List.mem_cons_self
  obj := fun i h st x hx => by
    obtain ⟨⟨old, he⟩, ⟨o1, e1, _, d1⟩⟩ := st
    simp only [List.mem_cons, List.not_mem_nil, or_false] at hx
    rcases hx with rfl | rfl
    · exact ⟨_, he, nofun⟩
    · exact ⟨o1, e1, fun v q => by rw [d1] at q; cases q⟩
  keep := fun i h h' st k => by
    obtain ⟨⟨old, he⟩, h1⟩ := st
    exact ⟨⟨old, k _ (by simp) _ he⟩, h1.at fun o q => k n (by simp) o q⟩
  item := by
    intro X hP hw hK hcl i pins s σ H E I hf st hg
    subst hP hw hK
    obtain ⟨he, h1⟩ := id st
    obtain ⟨xs, q1, hi⟩ := hg
    obtain ⟨its1, r1, p1, _⟩ := I.tuple q1
    have l1 := r1.length
    have lt : ∀ d ∈ [n + 1, n], d < s.heap.objs.size := by
      intro d hd
      obtain ⟨old, he⟩ := he
      obtain ⟨o1, e1, _⟩ := h1
      simp only [List.mem_cons, List.not_mem_nil, or_false] at hd
      rcases hd with rfl | rfl
      · exact Heap.lt_size he
      · exact Heap.lt_size e1
    refine (goesE (I.ok.hd hcl) ha its1.toArray).goes i s _ E
      (by simp only [List.size_toArray]; omega) ⟨he, h1, p1⟩
      fun v h' tk hY st' hk htk => ?_
    obtain ⟨T, t, x, rfl, hT, e1, hTu⟩ := hY
    obtain ⟨vx, ex⟩ : ∃ vx, xs[i]? = some vx :=
      ⟨xs[i]'hi, List.getElem?_eq_getElem _⟩
    obtain ⟨u1, g1, k1⟩ := r1.get ex
    rw [List.getElem?_toArray, g1] at e1
    cases e1
    have new : ObjOk X.prog X.w (upd H T (.tup [.int (i : Nat), vx])) h' T
        (.tup [.int (i : Nat), vx]) :=
      ⟨by show 2 ≤ sizeLine; decide, [_, x],
        .cons ⟨t, by rw [Int.zero_add]⟩ (.cons k1 .nil), hTu⟩
    have I1 := I.turnedNew (t' := tk) (ch := [n + 1, n])
      (fun d o hd q => hk d o hd q) hf hT new
    obtain ⟨z1, z2, z3⟩ := st'
    refine ⟨.ref T, _, I1, rfl, ⟨T, vx, rfl, I.hok.fresh hT, rfl,
      fun l hl => ?_⟩, ⟨z1, z2⟩, fun d hd => ?_⟩
    · rw [I.tuple_inj hl q1]; exact ex
    · have := lt d hd
      rw [upd_ne (fun (z : d = T) =>
        Nat.lt_irrefl d (Nat.lt_of_lt_of_le this (z ▸ hT)))]
      exact (hf d hd).1
  done := by
    intro X hP hw hK hcl i pins s σ H E I hf st hg
    subst hP hw hK
    obtain ⟨he, h1⟩ := st
    obtain ⟨xs, q1, hi⟩ := hg
    obtain ⟨its1, r1, p1, _⟩ := I.tuple q1
    have e : its1.toArray.size = i := by
      have l1 := r1.length
      simp only [List.size_toArray]
      omega
    refine (goesE (prog := X.prog) (w := X.w) (elts := elts) (k := kk)
      (pos := tpos) (I.ok.hd hcl) ha its1.toArray).stops s _ E
      (by rw [e]; exact ⟨he, h1, p1⟩) fun h' tk hk htk => ?_
    exact I.turnedL (t' := tk) (ch := [n + 1, n])
      (fun d o hd q => hk d o hd q) hf
  self := fun A i s Q E st h => let ⟨⟨_, he⟩, _⟩ := st; wpAny_pyIter_enum he h
theorem meetsE {v : Value} {o : Obj} {H : Heap → Prop} (B : Begins v o H) :
    Meets (Builtin.«enumerate.__new__» ⟨[.type "enumerate", v], []⟩)
      (fun _ R s => H s.heap ∧
        R (.ok (.ret (.ref (s.heap.push o).objs.size)))
          { s with heap := ((s.heap.push o).push (Obj.mk (.type "enumerate")
              none (.fields #[.none, .bool false, .ref s.heap.objs.size,
                rawInt 0, .none, .none]) #[])) }) :=
  .of_wp fun prog w A R s h => by
    obtain ⟨hp, g, d, tk, os⟩ := s
    obtain ⟨h1, h⟩ := h
    have hsub := sub_enumerate
    have q1 : ∀ {A' : Around} {E : Value → Shared → Prop}
        {Q : Value → Shared → Prop},
        Q (.ref hp.objs.size) ⟨hp.push o, g, d, tk, os⟩ →
        wpAny (model prog w) A' (pyIter v) Q E ⟨hp, g, d, tk, os⟩ :=
      fun q => B.iter prog w _ _ ⟨hp, g, d, tk, os⟩ _ h1 q
    wp_walk using q1
    refine wpAny_stack_any fun st => wpAny_pure ?_
    split
    · rename_i c _ _ _ _ _
      cases (c == Value.type "enumerate") <;>
        (wp_walk using q1; exact ⟨_, rfl, h⟩)
    · (wp_walk using q1; exact ⟨_, rfl, h⟩)
def enumO (n : Nat) : Obj := Obj.mk (.type "enumerate") none
  (.fields #[.none, .bool false, .ref n, rawInt 0, .none, .none]) #[]
theorem callE {prog : Program} {w : World} {A : Around}
    {E : Value → Shared → Prop} {s : Shared} {a : Addr} {items : Array Value}
    {Q : Value → Shared → Prop} (hT : s.heap.IsTuple a items)
    (h : ∀ h', IsEnum h' (s.heap.objs.size + 1) s.heap.objs.size 0 .none →
      h'.IsTupleIter s.heap.objs.size a 0 →
      (∀ b o, s.heap.get? b = some o → h'.get? b = some o) →
      Q (.ref (s.heap.objs.size + 1)) { s with heap := h' }) :
    wpAny (model prog w) A (call (.type "enumerate") [.ref a]) Q E s := by
  refine callType_new F.called_enumerate (by decide)
    (F.typeCall_enumerate_1 _) (F.newCall_enumerate_1 _)
    (fun obj => F.args_object_init_2 obj _) F.entry_enumerate_new
    (meetsE (begins_tuple a items)) ⟨hT, ?_⟩
  have hz : ∀ o : Obj, (s.heap.push o).objs.size = s.heap.objs.size + 1 :=
    fun o => Heap.size_push ..
  show _ ∧ _
  rw [hz]
  have he : ∀ o : Obj, IsEnum ((s.heap.push o).push (enumO s.heap.objs.size))
      (s.heap.objs.size + 1) s.heap.objs.size 0 .none := by
    intro o
    have := Heap.get?_push_size (s.heap.push o)
      (o := enumO s.heap.objs.size) rfl
    rw [hz] at this
    exact this
  exact ⟨⟨_, he _, rfl⟩, h _ (he _) ⟨_, Heap.get?_push_of_some _
    (Heap.get?_push_size _ rfl), rfl, rfl⟩ fun b o x =>
      Heap.get?_push_of_some _ (Heap.get?_push_of_some _ x)⟩
def iEnT (K : PySem.W.Frag) (ta : TA) : TI := fun σ H R =>
  ta σ H fun vs H1 => ∃ a xs, vs = [.ref a] ∧ SqT K H1 a xs ∧
    R (ItET K a) H1
theorem pi_enT {X : Cx} {e : Expr} {ta : TA} {p pos tpos : Pos}
    {elts : List Expr} {kk : Nat} (hg : Gl X "enumerate")
    (hm : X.mg "enumerate" = none) (ha : PA X [e] ta)
    (hs : starEach [e] X.env = [(false, eval e X.env)] := by rfl) :
    PI X (.Tuple elts kk tpos) (.Call (.Name "enumerate" p) [e] [] pos)
      (iEnT X.K ta) := by
  refine ⟨fun pins s σ H R I h => ?_⟩
  refine Call_ (ld_blt I hg hm boot_enumerate
    (PyProof.Rows.callWith_type1 (thn (ha.run pos pins s σ H _ I h)
      fun us s1 ⟨vs, H1, I1, r1, q1⟩ => ?_) hs rfl))
  obtain ⟨a, xs, rfl, hq, q⟩ := q1
  cases r1 with
  | cons r rr =>
    cases rr
    cases r
    obtain ⟨its, rv, p', hz⟩ := I1.tuple hq
    have la : a < s1.heap.objs.size := let ⟨_, z, _⟩ := p'; Heap.lt_size z
    refine callE (show s1.heap.IsTuple a its.toArray from p')
      fun h' he hit hk => wpAny_pyIter_enum he ?_
    have I2 : Inv X pins σ H1 { s1 with heap := h' } :=
      I1.kept (t' := s1.toks) hk
    refine ⟨s1.heap.objs.size + 1, _, _, _, H1, rfl, I2, turnE la,
      ⟨⟨.none, by simpa using he⟩, hit⟩, fun d hd => ?_, q⟩
    have hle : s1.heap.objs.size ≤ d := by
      simp only [List.mem_cons, List.not_mem_nil, or_false] at hd
      rcases hd with z | z <;> (have z : (_ : Nat) = _ := z; omega)
    exact I1.fpOk hle (I1.hok.fresh hle)
theorem walk_enT {K : PySem.W.Frag} {a : Addr} {xs : List V} :
    Walk (ItET K a) xs.length (fun H => SqT K H a xs)
      (YPair (fun i => some (.int (i : Nat))) (fun i => xs[i]?)) := by
  refine ⟨fun i _ hi q => ⟨xs, q, hi⟩, fun _ q => ⟨xs, q, rfl⟩,
    fun i H v H' _ q y => ?_⟩
  obtain ⟨T, x, h1, h2, h3, h4⟩ := y
  exact ⟨T, .int (i : Nat), x, h1, h2, h3, rfl, h4 xs q⟩
section
variable {K : PySem.W.Frag} {l : Option Addr} {ρ : Ro} {m : Nat}
variable {Φ : Nat → D → Prop} {Θ : Nat → Bool → Prop}
variable {Nx : Nat → Ro → Prop} {Rt : Nat → D → Prop} {ts tb : TS}
variable {ta te tl : TE} {t u : TT} {tA tK : TA}
/-- [e for i, a in enumerate(t)] -/
theorem e_lcE {i j : Nat} (hi : ρ[i]? = some none) (hj : ρ[j]? = some none)
    (hij : i ≠ j)
    (h : AvC K l tA ρ m fun m1 as => ∃ ys, as = [.tup ys] ∧
      ys.length ≤ 50000 ∧ ∃ I : Nat → Nat → List D → Prop, I 0 m1 [] ∧
      (∀ (c n : Nat) acc e, ys[c]? = some e → I c n acc →
        acc.length = c →
        EvC K l te ((ρ.set i (some (.dat (.int c)))).set j (some (.dat e))) n
          fun n2 y => I (c + 1) n2 (acc ++ [y])) ∧
      ∀ n acc, acc.length = ys.length → I ys.length n acc →
        Φ n (.lst acc)) :
    EvC K l (tLc (iEnT K tA) (g2 K i j) tYes te [i, j]) ρ m Φ := by
  intro Z B H σ Q ok k
  refine h Z B H σ _ ok fun vs as m1 B1 H1 o1 f1 i1 g1 => ?_
  obtain ⟨ys, rfl, hl, I, h0, hs, hd⟩ := g1
  obtain ⟨v, rfl, z1⟩ := isAll1 i1
  cases z1 with
  | @tup a us _ hu r1 =>
    refine ⟨a, us, rfl, sameT o1.sub hu, fun A hA => ?_⟩
    have hz : ¬ Z A := fun z => (o1.zs A z).1 hA
    refine lc_it (walk_enT (xs := us))
      (LcW K l Z ρ σ B1 H1 A I) (lcw_start o1 hA h0)
      (fun c H' _ w => ?_) (fun c x H' H'' hc w q => ?_) fun H' w => ?_
    · obtain ⟨n, acc, zs, B', ok', fr', _⟩ := w
      exact sameT ok'.sub (sameT fr'.sub hu)
    · obtain ⟨T, x1, y1, rfl, hT, rfl, e1, e2⟩ := q
      cases e1
      refine lcw_turn2 (P := fun d e => d = .int (c : Nat) ∧ ys[c]? = some e)
        hz hi hj hij w hT (fun B' sb => ?_)
        (by rw [r1.length] at hc; omega)
        fun d e n acc p => by
          obtain ⟨rfl, p2⟩ := p
          exact hs c n acc e p2
      obtain ⟨e, q2, p2⟩ := (r1.mono sb).get e2
      exact ⟨_, e, .int _, p2, rfl, q2⟩
    · rw [r1.length] at w
      exact lcw_end hz w hd fun v d m' B2 H2 o2 f2 i2 g2 =>
        k v d m' B2 H2 o2 (f1.trans f2) i2 g2
/-- for i, a in enumerate(t) -/
theorem s_forE {i j : Nat}
    (h : AvC K l tA ρ m fun m1 as => ∃ ys, as = [.tup ys] ∧
      ∃ I : Nat → Nat → Ro → Prop, I 0 m1 ρ ∧
      (∀ (c n : Nat) ρ' e, ys[c]? = some e → I c n ρ' →
        SvC K l tb ((ρ'.set i (some (.dat (.int c)))).set j (some (.dat e))) n
          (fun n2 ρ2 => I (c + 1) n2 ρ2) Rt) ∧
      ∀ n ρ', I ys.length n ρ' → Nx n ρ') :
    SvC K l (tFor (iEnT K tA) (g2 K i j) tb) ρ m Nx Rt := by
  intro Z B H σ W ok k jr
  refine h Z B H σ _ ok fun vs as m1 B1 H1 o1 f1 i1 g1 => ?_
  obtain ⟨ys, rfl, I, h0, hs, hd⟩ := g1
  obtain ⟨v, rfl, z1⟩ := isAll1 i1
  cases z1 with
  | @tup a us _ hu r1 =>
    refine ⟨a, us, rfl, sameT o1.sub hu, ?_⟩
    refine for_it (walk_enT (xs := us))
      (fun c σ' H' => ∃ n ρ' B', Ok K l Z n B' H' σ' ρ' ∧
        Fr Z B1 H1 B' H' ∧ I c n ρ')
      ⟨m1, ρ, B1, o1, Fr.refl, h0⟩ (fun c σ' H' _ w => ?_)
      (fun c x σ' H' H'' hc w q => ?_) fun σ' H' w => ?_
    · obtain ⟨n, ρ', B', ok', fr', _⟩ := w
      exact sameT ok'.sub (sameT fr'.sub hu)
    · obtain ⟨T, x1, y1, rfl, hT, rfl, e1, e2⟩ := q
      cases e1
      obtain ⟨n, ρ', B', ok', fr', hI⟩ := w
      obtain ⟨e, q2, p2⟩ := (r1.mono fr'.sub).get e2
      obtain ⟨okJ, frJ⟩ := ok'.junk (o := .tup [.int (c : Nat), y1]) hT
      refine ⟨T, [.int (c : Nat), y1], rfl, SqT.of upd_same, rfl,
        .int (c : Nat), [y1], rfl, y1, [], rfl, rfl, ?_⟩
      refine hs c n ρ' e q2 hI Z B' _ _ _ ((okJ.set (.int _)).set p2)
        (fun σ2 ρ2 m2 B2 H2 o2 f2 g2 =>
          ⟨m2, ρ2, B2, o2, (fr'.trans frJ).trans f2, g2⟩)
        fun v d m2 B2 H2 o2 f2 i2 g2 => ?_
      exact jr v d m2 B2 H2 o2 ((f1.trans (fr'.trans frJ)).trans f2) i2 g2
    · obtain ⟨n, ρ', B', ok', fr', hI⟩ := w
      rw [r1.length] at hI
      exact k σ' ρ' n B' H' ok' (f1.trans fr') (hd n ρ' hI)
theorem e_lcEf {i j : Nat} (hi : ρ[i]? = some none) (hj : ρ[j]? = some none)
    (hij : i ≠ j)
    (h : AvC K l tA ρ m fun m1 as => ∃ ds, as = [.tup ds] ∧
      ∃ (α : Type) (xs : List α) (g : α → D) (f : Nat → α → D),
      ds = xs.map g ∧ xs.length ≤ 50000 ∧
      (∀ (c : Nat) a, xs[c]? = some a →
        EvC K l te ((ρ.set i (some (.dat (.int c)))).set j
          (some (.dat (g a)))) m1 fun n2 y => n2 = m1 ∧ y = f c a) ∧
      Φ m1 (.lst (xs.mapIdx f))) :
    EvC K l (tLc (iEnT K tA) (g2 K i j) tYes te [i, j]) ρ m Φ := by
  refine e_lcE hi hj hij (a_imp h fun m1 x q => ?_)
  obtain ⟨ds, rfl, α, xs, g, f, rfl, hc, hb, hq⟩ := q
  refine ⟨_, rfl, by rw [List.length_map]; exact hc, fun i n acc => n = m1 ∧
    acc = (xs.mapIdx f).take i, ⟨rfl, rfl⟩, ?_, ?_⟩
  · intro i n acc d hd hI _
    obtain ⟨rfl, rfl⟩ := hI
    rw [List.getElem?_map] at hd
    cases e : xs[i]? with
    | none => rw [e] at hd; cases hd
    | some a =>
      rw [e] at hd
      cases hd
      refine e_imp (hb i a e) fun n2 y q => ?_
      obtain ⟨rfl, rfl⟩ := q
      refine ⟨rfl, (take_snoc' ?_).symm⟩
      rw [List.getElem?_mapIdx, e]; rfl
  · intro n acc hl hI
    obtain ⟨rfl, rfl⟩ := hI
    rw [List.length_map, List.take_of_length_le (by simp)]
    exact hq
theorem s_forEw {i j : Nat}
    (h : AvC K l tA ρ m fun m1 as => ∃ ys, as = [.tup ys] ∧
      ∃ (k : Nat) (W : List Nat) (R : Nat → List (Option Sl) → Prop)
        (xs0 : List (Option Sl)),
      xs0.length = W.length ∧ ρ = put ρ W xs0 ∧ R 0 xs0 ∧
      (∀ (c n : Nat) e zs, ys[c]? = some e →
        n ≤ m1 + k * c → zs.length = W.length → R c zs →
        SvC K l tb (((put ρ W zs).set i (some (.dat (.int c)))).set j
            (some (.dat e))) n
          (fun n2 ρ2 => n2 ≤ n + k ∧ ∃ xs', xs'.length = W.length ∧
            ρ2 = put ρ W xs' ∧ R (c + 1) xs') Rt) ∧
      ∀ n zs, n ≤ m1 + k * ys.length → zs.length = W.length →
        R ys.length zs → Nx n (put ρ W zs)) :
    SvC K l (tFor (iEnT K tA) (g2 K i j) tb) ρ m Nx Rt := by
  refine s_forE (a_imp h fun m1 x q => ?_)
  obtain ⟨ys, rfl, k, W, R, xs0, hl0, e0, h0, hb, hq⟩ := q
  refine ⟨_, rfl, fun i n ρ' => n ≤ m1 + k * i ∧
    ∃ xs, xs.length = W.length ∧ ρ' = put ρ W xs ∧ R i xs,
    ⟨Nat.le_add_right _ _, xs0, hl0, e0, h0⟩, ?_, ?_⟩
  · intro c n ρ' e he hI
    obtain ⟨hn, xs, hx, rfl, hR⟩ := hI
    refine s_imp (hb c n e xs he hn hx hR) (fun n2 ρ2 q => ⟨?_, q.2⟩)
      fun n d q => q
    have := q.1
    rw [Nat.mul_add, Nat.mul_one]
    omega
  · intro n ρ' hI
    obtain ⟨hn, xs, hx, rfl, hR⟩ := hI
    exact hq n xs hn hx hR
/-- o.m(), the fields known -/
theorem e_methO {C : Addr} {n1 n2 me : Str} {pre : List D → Prop}
    {F : List D → D} {E : XK} (c : Own2 K C n1 n2) (hm1 : me ≠ n1)
    (hm2 : me ≠ n2)
    (h : EvC K l ta ρ m fun m1 x => ∃ d1 d2, x = .ins C [n1, n2] [d1, d2] ∧
      pre [x] ∧ Φ m1 (F [x])) :
    EvC K l (tMeth C me (SpP K pre F) [] E ta tNil) ρ m Φ :=
  e_meth0 hm1 hm2 h
theorem v_eqDo {a b : D} {k w k' w' : Nat} (h : Num k w a) (h' : Num k' w' b)
    (hk : k ≤ 64) (hk' : k' ≤ 64) (n : a ≠ b) (q : Φ m (.bl false)) :
    VvC K l ρ (fun vs H Q => ∃ x y, vs = [x, y] ∧ rEqD K x y H Q)
      [a, b] m Φ :=
  v_eqD (h.eqs hk) (h'.eqs hk') (by rw [h.other h' n]; exact q)
theorem v_neDo {a b : D} {k w k' w' : Nat} (h : Num k w a) (h' : Num k' w' b)
    (hk : k ≤ 64) (hk' : k' ≤ 64) (n : a ≠ b) (q : Φ m (.bl true)) :
    VvC K l ρ (fun vs H Q => ∃ x y, vs = [x, y] ∧ rNeD K x y H Q)
      [a, b] m Φ :=
  v_neD (h.eqs hk) (h'.eqs hk') (by rw [h.other h' n]; exact q)
theorem dec_bl (a b : Bool) : decide (V.bl a = V.bl b) = decide (a = b) := by
  by_cases h : a = b
  · subst h; simp
  · rw [decide_eq_false h, decide_eq_false (fun z => h (V.bl.inj z))]
theorem v_eqB {a b : Bool} (q : Φ m (.bl (decide (a = b)))) :
    VvC K l ρ (fun vs H Q => ∃ x y, vs = [x, y] ∧ rEq x y H Q)
      [.bl a, .bl b] m Φ := by
  intro Z B H σ vs Q ok is k
  obtain ⟨v, w, rfl, h, h2⟩ := isAll2 is
  cases h
  cases h2
  refine ⟨_, _, rfl, rfl, k _ _ m B H ok Fr.refl (.bl _) ?_⟩
  rw [dec_bl]
  exact q
theorem v_neB {a b : Bool} (q : Φ m (.bl (!decide (a = b)))) :
    VvC K l ρ (fun vs H Q => ∃ x y, vs = [x, y] ∧ rNe x y H Q)
      [.bl a, .bl b] m Φ := by
  intro Z B H σ vs Q ok is k
  obtain ⟨v, w, rfl, h, h2⟩ := isAll2 is
  cases h
  cases h2
  refine ⟨_, _, rfl, rfl, k _ _ m B H ok Fr.refl (.bl _) ?_⟩
  rw [dec_bl]
  exact q
end
end Wt

/-! Ranges made lists and tuples; rows with a test; own lists written and popped; lists told as new. -/
namespace Wt
open PySem PySem.Spec PyProof.Rows L2
section
variable {K : PySem.W.Frag} {l : Option Addr} {ρ : Ro} {m : Nat}
variable {Φ : Nat → D → Prop} {Θ : Nat → Bool → Prop}
variable {Nx : Nat → Ro → Prop} {Rt : Nat → D → Prop} {ts tb : TS}
variable {ta te tl ti : TE} {t u tt : TT} {tA tK : TA}
variable {Z Z' : Addr → Prop} {B H : Hp} {σ : L2.St}
theorem isAll_rng {B : Hp} (n : Nat) : IsAll K B (rgV 0 (n : Int))
    ((List.range n).map fun (i : Nat) => D.int i) := by
  unfold rgV
  rw [show ((n : Int) - 0).toNat = n by omega]
  induction n with
  | zero => exact .nil
  | succ n ih =>
    rw [List.range_succ, List.map_append, List.map_append]
    refine ih.append (.cons ?_ .nil)
    show Is K B (.int (0 + (n : Int))) (.int n)
    rw [Int.zero_add]
    exact .int _
theorem e_tupRg (h : EvC K l ta ρ m fun m1 d => ∃ z, d = .int z ∧
      ∃ n : Nat, z = n ∧ n ≤ 10000 ∧
      Φ m1 (.tup ((List.range n).map fun (i : Nat) => .int i))) :
    EvC K l (tTupRgC (tRg1 ta)) ρ m Φ := by
  intro Z B H σ Q ok k
  refine h Z B H σ _ ok fun v d m1 B1 H1 o1 f1 i1 g1 => ?_
  obtain ⟨z, rfl, n, rfl, hn, q⟩ := g1
  cases i1
  refine ⟨n, rfl, RgOk.of_le (by omega) (by omega) (by omega) (by omega),
    fun p ob hp hd _ => ?_⟩
  obtain ⟨o2, f2⟩ := o1.new (o := .frz ob (.tup (rgV 0 n))) hp
  exact k _ _ m1 _ _ o2 (f1.trans f2) (.newT upd_same hd
    (isAll_rng n)) q
theorem e_lstRg (h : EvC K l ta ρ m fun m1 d => ∃ z, d = .int z ∧
      ∃ n : Nat, z = n ∧ n ≤ 10000 ∧
      Φ m1 (.lst ((List.range n).map fun (i : Nat) => .int i))) :
    EvC K l (tLstRg (tRg1 ta)) ρ m Φ := by
  intro Z B H σ Q ok k
  refine h Z B H σ _ ok fun v d m1 B1 H1 o1 f1 i1 g1 => ?_
  obtain ⟨z, rfl, n, rfl, hn, q⟩ := g1
  cases i1
  refine ⟨n, rfl, RgOk.of_le (by omega) (by omega) (by omega) (by omega),
    fun p hp => ?_⟩
  obtain ⟨o2, f2⟩ := o1.new (o := .lst (rgV 0 n)) hp
  exact k _ _ m1 _ _ o2 (f1.trans f2) (.lst upd_same (isAll_rng n)) q
/-! ### a row with a test -/
def LcX (K : PySem.W.Frag) (l : Option Addr) (Z : Addr → Prop) (ρ : Ro)
    (σ : L2.St) (B H : Hp) (A : Addr) (I : Nat → Nat → List D → Prop)
    (i : Nat) (H' : Hp) : Prop :=
  ∃ n acc xs B', Ok K l (fun a => Z a ∨ a = A) n B' H' σ ρ ∧
    Fr Z B H B' H' ∧ H' A = some (.lst xs) ∧ IsAll K B' xs acc ∧
    I i n acc ∧ acc.length ≤ i
theorem lcx_turn {A : Addr} {I : Nat → Nat → List D → Prop} {i j : Nat}
    {x : V} {H' : Hp} {P : D → Prop} (hz : ¬ Z A) (hj : ρ[j]? = some none)
    (w : LcX K l Z ρ σ B H A I i H')
    (hx : ∀ B', Same B B' → ∃ d, Is K B' x d ∧ P d) (hi : i < 100000)
    (he : ∀ d n acc, P d → I i n acc →
      TvC K l tt (ρ.set j (some (.dat d))) n fun n1 b =>
        if b = true then EvC K l te (ρ.set j (some (.dat d))) n1 fun n2 y =>
          I (i + 1) n2 (acc ++ [y]) else I (i + 1) n1 acc) :
    gName j x (wipe σ [j]) H' fun σ2 H2 => wipe σ2 [j] = wipe σ [j] ∧
      tt σ2 H2 fun b H3 => if b = true then te σ2 H3 fun y H4 =>
        ∃ acc, H4 A = some (.lst acc) ∧ acc.length < sizeLine ∧
          LcX K l Z ρ σ B H A I (i + 1) (upd H4 A (.lst (acc ++ [y])))
      else LcX K l Z ρ σ B H A I (i + 1) H3 := by
  obtain ⟨n, acc, xs, B', ok, fr, hA, is, hI, hl⟩ := w
  obtain ⟨d, hd, hP⟩ := hx B' fr.sub
  have e1 : (wipe σ [j]).set j (some x) = σ.set j (some x) := by
    show (σ.set j none).set j (some x) = _
    rw [List.set_set]
  unfold gName
  rw [e1]
  refine ⟨?_, ?_⟩
  · show (σ.set j (some x)).set j none = σ.set j none
    rw [List.set_set]
  · refine he d n acc hP hI _ B' H' _ _ (ok.set hd)
      fun b n1 B1 H1 o1 f1 g1 => ?_
    have hA1 : H1 A = some (.lst xs) := (f1.kept A (.inr rfl)).trans hA
    cases b with
    | false =>
      rw [if_neg Bool.false_ne_true] at g1 ⊢
      exact ⟨n1, acc, xs, B1, o1.unset hj, fr.trans (f1.weak fun z q => .inl q),
        hA1, is.mono f1.sub, g1, by omega⟩
    | true =>
      rw [if_pos rfl] at g1 ⊢
      refine g1 _ B1 H1 _ _ o1 fun v y n2 B2 H2 o2 f2 i2 g2 => ?_
      have hA2 : H2 A = some (.lst xs) := (f2.kept A (.inr rfl)).trans hA1
      refine ⟨xs, hA2, ?_, n2, acc ++ [y], xs ++ [v], B2,
        (o2.unset hj).write (.inr rfl), ?_, upd_same,
        ((is.mono f1.sub).mono f2.sub).append (.cons i2 .nil), g2,
        by simp; omega⟩
      · rw [is.length]
        exact Nat.lt_of_le_of_lt hl (Nat.lt_of_lt_of_le hi (by decide))
      · refine ⟨(fr.sub.trans f1.sub).trans f2.sub, fun z hz' => ?_⟩
        rw [upd_ne (fun (e : z = A) => hz (e ▸ hz'))]
        exact ((f2.kept z (.inl hz')).trans (f1.kept z (.inl hz'))).trans
          (fr.kept z hz')
theorem lcx_end {A : Addr} {I : Nat → Nat → List D → Prop} {i : Nat}
    {H' : Hp} {Q : VK} (hz : ¬ Z A) (w : LcX K l Z ρ σ B H A I i H')
    (q : ∀ n acc, I i n acc → Φ n (.lst acc))
    (k : ∀ v d m' B2 H2, Ok K l Z m' B2 H2 σ ρ → Fr Z B H B2 H2 →
      Is K B2 v d → Φ m' d → Q v H2) : Q (.ref A) H' := by
  obtain ⟨n, acc, xs, B', ok, fr, hA, is, hI, hl⟩ := w
  have z2 := (ok.zs A (.inr rfl)).2.1
  exact k _ _ n _ _ (ok.thaw hA hz) ⟨fr.sub.trans (same_new z2), fr.kept⟩
    (.lst upd_same (is.mono (same_new z2))) (q n acc hI)
theorem lcx_start {A : Addr} {I : Nat → Nat → List D → Prop}
    (ok : Ok K l Z m B H σ ρ) (hA : H A = none) (h0 : I 0 m []) :
    LcX K l Z ρ σ B H A I 0 (upd H A (.lst [])) := by
  refine ⟨m, [], [], B, ok.aside hA, ⟨Same.refl B, fun z hz => ?_⟩,
    upd_same, .nil, h0, Nat.le_refl _⟩
  exact upd_ne fun e => (ok.zs z hz).1 (e ▸ hA)
/-- [e for i in range(n) if t] -/
theorem e_lcRx {j : Nat} (hj : ρ[j]? = some none)
    (h : AvC K l tA ρ m fun m1 x => ∃ z : Int, x = [.int z] ∧
      ∃ (c : Nat) (I : Nat → Nat → List D → Prop), z = c ∧ c ≤ 50000 ∧
      I 0 m1 [] ∧
      (∀ (i n : Nat) acc, i < c → I i n acc →
        TvC K l tt (ρ.set j (some (.dat (.int i)))) n fun n1 b =>
          if b = true then EvC K l te (ρ.set j (some (.dat (.int i)))) n1
            fun n2 y => I (i + 1) n2 (acc ++ [y]) else I (i + 1) n1 acc) ∧
      ∀ n acc, I c n acc → Φ n (.lst acc)) :
    EvC K l (tLc (iRng1 tA) (gName j) tt te [j]) ρ m Φ := by
  intro Z B H σ Q ok k
  refine h Z B H σ _ ok fun vs x m1 B1 H1 o1 f1 i1 g1 => ?_
  obtain ⟨z, rfl, c, I, rfl, hc, h0, hs, hd⟩ := g1
  obtain ⟨v, rfl, i2⟩ := isAll1 i1
  cases i2
  refine ⟨(c : Int), rfl, by omega, by omega, fun A hA => ?_⟩
  have hz : ¬ Z A := fun z => (o1.zs A z).1 hA
  refine lc_range (lo := 0) (n := (c : Int).toNat)
    (LcX K l Z ρ σ B1 H1 A I)
    (lcx_start o1 hA h0) (fun i H' hi w => ?_) fun H' w => ?_
  · rw [Int.toNat_natCast] at hi
    have e0 : (0 : Int) + (i : Int) = (i : Int) := Int.zero_add _
    rw [e0]
    exact lcx_turn (P := fun d => d = .int i) hz hj w
      (fun B' sb => ⟨_, .int _, rfl⟩) (by omega)
      fun d n acc e => by subst e; exact hs i n acc hi
  · rw [Int.toNat_natCast] at w
    exact lcx_end hz w hd fun v d m' B2 H2 o2 f2 i2 g2 =>
      k v d m' B2 H2 o2 (f1.trans f2) i2 g2
/-- the same, told by a test and a function of the number -/
theorem e_lcRxf {j : Nat} (hj : ρ[j]? = some none)
    (h : AvC K l tA ρ m fun m1 x => ∃ z : Int, x = [.int z] ∧
      ∃ (c : Nat) (p : Nat → Bool) (f : Nat → D), z = c ∧ c ≤ 50000 ∧
      (∀ i : Nat, i < c →
        TvC K l tt (ρ.set j (some (.dat (.int i)))) m1 fun n1 b => n1 = m1 ∧
          b = p i) ∧
      (∀ i : Nat, i < c → EvC K l te (ρ.set j (some (.dat (.int i)))) m1
        fun n2 y => n2 = m1 ∧ y = f i) ∧
      Φ m1 (.lst (((List.range c).filter p).map f))) :
    EvC K l (tLc (iRng1 tA) (gName j) tt te [j]) ρ m Φ := by
  refine e_lcRx hj (a_imp h fun m1 x q => ?_)
  obtain ⟨z, rfl, c, p, f, rfl, hc, ht, hb, hq⟩ := q
  refine ⟨_, rfl, c, fun i n acc => n = m1 ∧
    acc = ((List.range i).filter p).map f, rfl, hc, ⟨rfl, rfl⟩, ?_, ?_⟩
  · intro i n acc hi hI
    obtain ⟨rfl, rfl⟩ := hI
    refine t_imp (ht i hi) fun n1 b e => ?_
    obtain ⟨rfl, rfl⟩ := e
    cases e : p i with
    | true =>
      rw [if_pos rfl]
      refine e_imp (hb i hi) fun n2 y e2 => ?_
      obtain ⟨rfl, rfl⟩ := e2
      refine ⟨rfl, ?_⟩
      rw [List.range_succ, List.filter_append, List.map_append,
        List.filter_cons, e]
      rfl
    | false =>
      rw [if_neg Bool.false_ne_true]
      refine ⟨rfl, ?_⟩
      rw [List.range_succ, List.filter_append, List.map_append,
        List.filter_cons, e]
      simp
  · intro n acc hI
    obtain ⟨rfl, rfl⟩ := hI
    exact hq
/-! ### own lists -/
/-- x = [..] * n that will be written -/
theorem s_repOwn {i : Nat} (h : EvC K l ta ρ m fun m1 x => EvC K l te ρ m1
      fun m2 y => ∃ xs, x = .lst xs ∧ ∃ z, y = .int z ∧ ∃ n : Nat, z = n ∧
        n ≤ 1000 ∧ xs.length ≤ 100 ∧
        Nx m2 (ρ.set i (some (.own (List.replicate n xs).flatten)))) :
    SvC K l (tAsg (tOp rRep ta te) (gName i)) ρ m Nx Rt := by
  intro Z B H σ W ok k _
  refine h Z B H σ _ ok fun v1 d1 m1 B1 H1 o1 f1 i1 g1 => ?_
  refine g1 Z B1 H1 σ _ o1 fun v2 d2 m2 B2 H2 o2 f2 i2 g2 => ?_
  obtain ⟨xs, rfl, z, rfl, n, rfl, hn, hl, q⟩ := g2
  have i1' := i1.mono f2.sub
  cases i2
  cases i1' with
  | @lst a vs _ ha isa =>
    refine ⟨a, n, vs, rfl, rfl, o2.sub _ _ ha, by omega, by omega, ?_,
      fun p hp => ?_⟩
    · rw [isa.length, Int.toNat_natCast, sizeLine_eq]
      have : xs.length * n ≤ 100 * 1000 := Nat.mul_le_mul hl hn
      omega
    · rw [Int.toNat_natCast]
      have hz : ¬ Z p := fun z => (o2.zs p z).1 hp
      refine k _ _ m2 B2 _ ((o2.aside
        (o := .lst (List.replicate n vs).flatten) hp).setOwn
        hz upd_same (isa.rep n)) ((f1.trans f2).trans
        ⟨Same.refl B2, fun z hz' => upd_ne fun e => hz (e ▸ hz')⟩) q
theorem IsAll.setAt {vs : List V} {ds : List D} {v : V} {d : D}
    (h : IsAll K B vs ds) (hv : Is K B v d) :
    ∀ n : Nat, IsAll K B (vs.set n v) (ds.set n d) := by
  intro n
  induction vs generalizing ds n with
  | nil => cases h; exact .nil
  | cons x xs ih =>
    cases h with
    | cons h1 h2 =>
      cases n with
      | zero => exact .cons hv h2
      | succ n => exact .cons h1 (ih h2 n)
theorem IsAll.erase {vs : List V} {ds : List D} (h : IsAll K B vs ds) :
    ∀ n : Nat, IsAll K B (vs.eraseIdx n) (ds.eraseIdx n) := by
  intro n
  induction vs generalizing ds n with
  | nil => cases h; exact .nil
  | cons x xs ih =>
    cases h with
    | cons h1 h2 =>
      cases n with
      | zero => exact h2
      | succ n => exact .cons h1 (ih h2 n)
/-- x[e] = v of an own list -/
theorem s_setOwn {i : Nat} {ds : List D} (hi : ρ[i]? = some (some (.own ds)))
    (h : EvC K l te ρ m fun m1 d => EvC K l ti ρ m1 fun m2 x => ∃ z,
      x = .int z ∧ ∃ k : Nat, z = k ∧ k < ds.length ∧
      Nx m2 (ρ.set i (some (.own (ds.set k d))))) :
    SvC K l (tAsg te (gSub (tVar i) ti rSetL)) ρ m Nx Rt := by
  intro Z B H σ W ok k _
  refine h Z B H σ _ ok fun v1 d1 m1 B1 H1 o1 f1 i1 g1 => ?_
  obtain ⟨v, e1, a, xs, rfl, q1, q2, q3, q4, q5⟩ := o1.sl i _ hi
  refine ⟨_, e1, ?_⟩
  refine g1 Z B1 H1 σ _ o1 fun v2 d2 m2 B2 H2 o2 f2 i2 g2 => ?_
  obtain ⟨z, rfl, c, rfl, hc, q⟩ := g2
  cases i2
  obtain ⟨v', e1', a', xs', hv, w1, w2, w3, w4, w5⟩ := o2.sl i _ hi
  subst hv
  rw [e1] at e1'
  cases e1'
  refine ⟨a, xs', c, c, rfl, rfl, w1, ?_, ?_⟩
  · unfold ixN
    rw [if_pos (by omega), w5.length]
    first
      | (rw [if_pos (by omega)]; simp)
      | simp [hc]
      | omega
  · obtain ⟨o3, f3⟩ := o2.grow hi e1 (w5.setAt (i1.mono f2.sub) c)
    exact k _ _ m2 B2 _ o3 ((f1.trans f2).trans f3) q
/-- a, b = list(t), [] that will both be written -/
theorem s_own2 {i j : Nat} (hij : i ≠ j)
    (h : EvC K l te ρ m fun m1 x => ∃ es, x.items = some es ∧
      Nx m1 ((ρ.set i (some (.own es))).set j (some (.own [])))) :
    SvC K l (tAsg (tTupC (tCons (tCB (rListQ K) (tCons te tNil))
      (tCons (tLst tNil) tNil))) (g2 K i j)) ρ m Nx Rt := by
  intro Z B H σ W ok kk _
  refine h Z B H σ _ ok fun v d m1 B1 H1 o1 f1 i1 g1 => ?_
  obtain ⟨es, he, q⟩ := g1
  have : ∃ a us, v = .ref a ∧ (SqL K H1 a us ∨ SqT K H1 a us) ∧
      IsAll K B1 us es := by
    cases i1 with
    | lst h r => cases he; exact ⟨_, _, rfl, .inl (SqL.of (o1.sub _ _ h)), r⟩
    | tup h r _ => cases he; exact ⟨_, _, rfl, .inr (sameT o1.sub h), r⟩
    | _ => cases he
  obtain ⟨a, us, rfl, hs, r⟩ := this
  refine ⟨a, us, rfl, hs, fun p hp => ⟨Nat.zero_le _, fun p2 hp2 => ?_⟩⟩
  have hz : ¬ Z p := fun z => (o1.zs p z).1 hp
  have oA := o1.aside (o := .lst us) hp
  have hz2 : ¬ (Z p2 ∨ p2 = p) := fun z => (oA.zs p2 z).1 hp2
  have oB := oA.aside (o := .lst []) hp2
  have np : p ≠ p2 := fun e => hz2 (.inr e.symm)
  refine ⟨by show 2 ≤ sizeLine; decide, fun T ob hT _ _ => ?_⟩
  obtain ⟨oJ, fJ⟩ := oB.junk (o := .frz ob (.tup [.ref p, .ref p2])) hT
  have h1 : upd (upd (upd H1 p (.lst us)) p2 (.lst [])) T
      (.frz ob (.tup [.ref p, .ref p2])) p = some (.lst us) := by
    rw [upd_ne (fun e => by rw [← e, upd_ne np, upd_same] at hT; cases hT),
      upd_ne np, upd_same]
  have h2 : upd (upd (upd H1 p (.lst us)) p2 (.lst [])) T
      (.frz ob (.tup [.ref p, .ref p2])) p2 = some (.lst []) := by
    rw [upd_ne (fun e => by rw [← e, upd_same] at hT; cases hT), upd_same]
  have oC := oJ.setOwn (i := j) (ds := []) hz2 h2 .nil
  have oD := oC.setOwn (i := i) (ds := es) hz h1 r
  rw [List.set_comm _ _ hij.symm, List.set_comm _ _ hij.symm (l := ρ)] at oD
  refine ⟨T, _, rfl, sqF upd_same, rfl, .ref p, [.ref p2], rfl, .ref p2, [],
    rfl, rfl, kk _ _ m1 B1 _ oD ?_ q⟩
  refine f1.trans ⟨Same.refl B1, fun z hz' => ?_⟩
  rw [fJ.kept z (.inl (.inl hz')),
    upd_ne (fun (e : z = p2) => hz2 (.inl (e ▸ hz'))),
    upd_ne (fun (e : z = p) => hz (e ▸ hz'))]
theorem s_parOwn2 {i j : Nat} (hij : i ≠ j)
    (h : EvC K l te ρ m fun m1 x => ∃ es, x.items = some es ∧
      Nx m1 ((ρ.set i (some (.own es))).set j (some (.own [])))) :
    SvC K l (tPar i j (tCons (tCB (rListQ K) (tCons te tNil))
      (tCons (tLst tNil) tNil))) ρ m Nx Rt := by
  intro Z B H σ W ok kk _
  refine h Z B H σ _ ok fun v d m1 B1 H1 o1 f1 i1 g1 => ?_
  obtain ⟨es, he, q⟩ := g1
  have : ∃ a us, v = .ref a ∧ (SqL K H1 a us ∨ SqT K H1 a us) ∧
      IsAll K B1 us es := by
    cases i1 with
    | lst h r => cases he; exact ⟨_, _, rfl, .inl (SqL.of (o1.sub _ _ h)), r⟩
    | tup h r _ => cases he; exact ⟨_, _, rfl, .inr (sameT o1.sub h), r⟩
    | _ => cases he
  obtain ⟨a, us, rfl, hs, r⟩ := this
  refine ⟨a, us, rfl, hs, fun p hp => ⟨Nat.zero_le _, fun p2 hp2 => ?_⟩⟩
  have hz : ¬ Z p := fun z => (o1.zs p z).1 hp
  have oA := o1.aside (o := .lst us) hp
  have hz2 : ¬ (Z p2 ∨ p2 = p) := fun z => (oA.zs p2 z).1 hp2
  have oB := oA.aside (o := .lst []) hp2
  have np : p ≠ p2 := fun e => hz2 (.inr e.symm)
  have h1 : upd (upd H1 p (.lst us)) p2 (.lst []) p = some (.lst us) := by
    rw [upd_ne np, upd_same]
  have oC := oB.setOwn (i := j) (ds := []) hz2 upd_same .nil
  have oD := oC.setOwn (i := i) (ds := es) hz h1 r
  rw [List.set_comm _ _ hij.symm, List.set_comm _ _ hij.symm (l := ρ)] at oD
  refine ⟨.ref p, .ref p2, rfl, kk _ _ m1 B1 _ oD ?_ q⟩
  refine f1.trans ⟨Same.refl B1, fun z hz' => ?_⟩
  rw [upd_ne (fun (e : z = p2) => hz2 (.inl (e ▸ hz'))),
    upd_ne (fun (e : z = p) => hz (e ▸ hz'))]
/-- t[a:b] of a list -/
theorem e_slL {tl th : TO}
    (h : EvC K l te ρ m fun m1 x => OvC K l tl ρ m1 fun m2 lo =>
      OvC K l th ρ m2 fun m3 hi => ∃ ds, x = .lst ds ∧
        Φ m3 (.lst (cutD ds lo hi))) :
    EvC K l (tSl (rSlL K) te tl th) ρ m Φ := by
  intro Z B H σ Q ok k
  refine h Z B H σ _ ok fun v x m1 B1 H1 o1 f1 i1 g1 => ?_
  refine g1 Z B1 H1 σ _ o1 fun lo m2 B2 H2 o2 f2 g2 => ?_
  refine g2 Z B2 H2 σ _ o2 fun hi m3 B3 H3 o3 f3 g3 => ?_
  obtain ⟨ds, rfl, q⟩ := g3
  have i3 := i1.mono (f2.trans f3).sub
  cases i3 with
  | @lst a us _ h r =>
    refine ⟨a, us, rfl, SqL.of (o3.sub _ _ h), fun p hp => ?_⟩
    obtain ⟨o4, f4⟩ := o3.new (o := .lst (cutV us lo hi)) hp
    exact k _ _ m3 _ _ o4 ((f1.trans (f2.trans f3)).trans f4)
      (.lst upd_same ((r.mono f4.sub).cut lo hi)) q
/-- for a, b in zip(x, y) of two lists -/
theorem s_forZL {i j : Nat}
    (h : AvC K l tA ρ m fun m1 as => ∃ xs ys, as = [.lst xs, .lst ys] ∧
      ∃ I : Nat → Nat → Ro → Prop, I 0 m1 ρ ∧
      (∀ (c n : Nat) ρ' d e, xs[c]? = some d → ys[c]? = some e → I c n ρ' →
        SvC K l tb ((ρ'.set i (some (.dat d))).set j (some (.dat e))) n
          (fun n2 ρ2 => I (c + 1) n2 ρ2) Rt) ∧
      ∀ n ρ', I (min xs.length ys.length) n ρ' → Nx n ρ') :
    SvC K l (tFor (RZ.iZipA K tA) (g2 K i j) tb) ρ m Nx Rt := by
  intro Z B H σ W ok k jr
  refine h Z B H σ _ ok fun vs as m1 B1 H1 o1 f1 i1 g1 => ?_
  obtain ⟨xs, ys, rfl, I, h0, hs, hd⟩ := g1
  obtain ⟨v, w, rfl, z1, z2⟩ := isAll2 i1
  cases z1 with
  | @lst a us _ hu r1 =>
    cases z2 with
    | @lst b ws _ hw r2 =>
      refine ⟨a, b, us, ws, rfl, .inl ⟨SqL.of (o1.sub _ _ hu),
        SqL.of (o1.sub _ _ hw), ?_⟩⟩
      refine for_it (walk_zip (xs := us) (ys := ws) rfl)
        (fun c σ' H' => ∃ n ρ' B', Ok K l Z n B' H' σ' ρ' ∧
          Fr Z B1 H1 B' H' ∧ I c n ρ')
        ⟨m1, ρ, B1, o1, Fr.refl, h0⟩ (fun c σ' H' _ w => ?_)
        (fun c x σ' H' H'' hc w q => ?_) fun σ' H' w => ?_
      · obtain ⟨n, ρ', B', ok', fr', _⟩ := w
        exact ⟨SqL.of (ok'.sub _ _ (fr'.sub _ _ hu)),
          SqL.of (ok'.sub _ _ (fr'.sub _ _ hw))⟩
      · obtain ⟨T, x1, y1, rfl, hT, rfl, e1, e2⟩ := q
        obtain ⟨n, ρ', B', ok', fr', hI⟩ := w
        obtain ⟨d, q1, p1⟩ := (r1.mono fr'.sub).get e1
        obtain ⟨e, q2, p2⟩ := (r2.mono fr'.sub).get e2
        obtain ⟨okJ, frJ⟩ := ok'.junk (o := .tup [x1, y1]) hT
        refine ⟨T, [x1, y1], rfl, SqT.of upd_same, rfl, x1, [y1], rfl, y1, [],
          rfl, rfl, ?_⟩
        refine hs c n ρ' d e q1 q2 hI Z B' _ _ _ ((okJ.set p1).set p2)
          (fun σ2 ρ2 m2 B2 H2 o2 f2 g2 =>
            ⟨m2, ρ2, B2, o2, (fr'.trans frJ).trans f2, g2⟩)
          fun v d m2 B2 H2 o2 f2 i2 g2 => ?_
        exact jr v d m2 B2 H2 o2 ((f1.trans (fr'.trans frJ)).trans f2) i2 g2
      · obtain ⟨n, ρ', B', ok', fr', hI⟩ := w
        rw [r1.length, r2.length] at hI
        exact k σ' ρ' n B' H' ok' (f1.trans fr') (hd n ρ' hI)
theorem s_forZLw {i j : Nat}
    (h : AvC K l tA ρ m fun m1 as => ∃ xs ys, as = [.lst xs, .lst ys] ∧
      ∃ (k : Nat) (W : List Nat) (R : Nat → List (Option Sl) → Prop)
        (xs0 : List (Option Sl)),
      xs0.length = W.length ∧ ρ = put ρ W xs0 ∧ R 0 xs0 ∧
      (∀ (c n : Nat) d e zs, xs[c]? = some d → ys[c]? = some e →
        n ≤ m1 + k * c → zs.length = W.length → R c zs →
        SvC K l tb (((put ρ W zs).set i (some (.dat d))).set j
            (some (.dat e))) n
          (fun n2 ρ2 => n2 ≤ n + k ∧ ∃ xs', xs'.length = W.length ∧
            ρ2 = put ρ W xs' ∧ R (c + 1) xs') Rt) ∧
      ∀ n zs, n ≤ m1 + k * min xs.length ys.length → zs.length = W.length →
        R (min xs.length ys.length) zs → Nx n (put ρ W zs)) :
    SvC K l (tFor (RZ.iZipA K tA) (g2 K i j) tb) ρ m Nx Rt := by
  refine s_forZL (a_imp h fun m1 x q => ?_)
  obtain ⟨xs, ys, rfl, k, W, R, xs0, hl0, e0, h0, hb, hq⟩ := q
  refine ⟨_, _, rfl, fun i n ρ' => n ≤ m1 + k * i ∧
    ∃ xs, xs.length = W.length ∧ ρ' = put ρ W xs ∧ R i xs,
    ⟨Nat.le_add_right _ _, xs0, hl0, e0, h0⟩, ?_, ?_⟩
  · intro c n ρ' d e hd he hI
    obtain ⟨hn, xs, hx, rfl, hR⟩ := hI
    refine s_imp (hb c n d e xs hd he hn hx hR) (fun n2 ρ2 q => ⟨?_, q.2⟩)
      fun n d q => q
    have := q.1
    rw [Nat.mul_add, Nat.mul_one]
    omega
  · intro n ρ' hI
    obtain ⟨hn, xs, hx, rfl, hR⟩ := hI
    exact hq n xs hn hx hR
/-- own != [] -/
theorem t_ownNe {i kk ww : Nat} {ds : List D}
    (hi : ρ[i]? = some (some (.own ds)))
    (hd : Num kk ww (.lst ds)) (hkk : kk ≤ 64) (q : Θ m (!ds.isEmpty)) :
    TvC K l (tTest (tOp (rNeD K) (tVar i) (tLst tNil))) ρ m Θ := by
  intro Z B H σ Q ok k
  obtain ⟨v, e1, a, xs, rfl, q1, q2, q3, q4, q5⟩ := ok.sl i _ hi
  refine ⟨_, e1, Nat.zero_le _, fun p hp => ?_⟩
  have hap : a ≠ p := fun e => by rw [e, hp] at q1; cases q1
  have q1' : upd H p (.lst []) a = some (.lst xs) := by rw [upd_ne hap]; exact q1
  -- both are lists of the heap
  have fz : IsAll K (upd (upd B a (.lst xs)) p (.lst [])) xs ds :=
    q5.mono (fun b x e => by
      have n1 : b ≠ a := fun z => by rw [z, q2] at e; cases e
      have n2 : b ≠ p := fun z => by rw [z, ok.same0 hp] at e; cases e
      rw [upd_ne n2, upd_ne n1]; exact e)
  have sb : Same (upd (upd B a (.lst xs)) p (.lst [])) (upd H p (.lst [])) := by
    intro b x e
    by_cases n2 : b = p
    · subst n2; rw [upd_same] at e ⊢; exact e
    · rw [upd_ne n2] at e ⊢
      by_cases n1 : b = a
      · subst n1; rw [upd_same] at e; cases e; exact q1
      · rw [upd_ne n1] at e; exact ok.sub b x e
  have i1 : Is K (upd (upd B a (.lst xs)) p (.lst [])) (.ref a) (.lst ds) :=
    .lst (by rw [upd_ne hap, upd_same]) fz
  have i2 : Is K (upd (upd B a (.lst xs)) p (.lst [])) (.ref p) (.lst []) :=
    .lst upd_same .nil
  have n0 : Num 1 200000 (.lst []) :=
    (Num.lst (k := 0) (w := 1) (xs := []) fun x hx => by simp at hx).up
      (by omega) (by simp)
  have ev : (!PyData.eqv (D.lst ds).py (D.lst []).py) = !ds.isEmpty := by
    cases ds with
    | nil => rw [n0.same]; rfl
    | cons x xs => rw [hd.other n0 (by simp)]; rfl
  obtain ⟨o2, f2⟩ := ok.junk (o := .lst []) hp
  refine ⟨_, _, i1.dp sb (hd.eqs hkk).plain,
    i2.dp sb (n0.eqs (by omega)).plain, (hd.eqs hkk).shaped,
    (n0.eqs (by omega)).shaped, _, rfl, ?_⟩
  rw [ev]
  exact k _ m B _ o2 f2 q
/-- len(own) -/
theorem e_lenOwn {i : Nat} {ds : List D} (hi : ρ[i]? = some (some (.own ds)))
    (q : Φ m (.int ds.length)) :
    EvC K l (tCB (rLenQ K) (tCons (tVar i) tNil)) ρ m Φ := by
  intro Z B H σ Q ok k
  obtain ⟨v, e1, a, xs, rfl, q1, q2, q3, q4, q5⟩ := ok.sl i _ hi
  refine ⟨_, e1, a, xs, rfl, .inl (SqL.of q1), ?_⟩
  rw [q5.length]
  exact k _ _ m B H ok Fr.refl (.int _) q
/-- x.append(y.pop(e)) of two own lists -/
theorem s_popApp {i j : Nat} {ds es : List D}
    (hi : ρ[i]? = some (some (.own ds))) (hj : ρ[j]? = some (some (.own es)))
    (hij : i ≠ j) (hl : es.length < 100000)
    (h : EvC K l te ρ m fun m1 d => ∃ z, d = .int z ∧ ∃ k : Nat, z = k ∧
      k < 1000000 ∧ ∃ y, ds[k]? = some y ∧
      Nx m1 ((ρ.set i (some (.own (ds.eraseIdx k)))).set j
        (some (.own (es ++ [y]))))) :
    SvC K l (tDrop (tBM K "list" rAppend (tVar j) (tCons (tBM K "list"
      rPopAt (tVar i) (tCons te tNil)) tNil))) ρ m Nx Rt := by
  intro Z B H σ W ok k _
  obtain ⟨v, e1, a, xs, rfl, q1, q2, q3, q4, q5⟩ := ok.sl j _ hj
  refine ⟨_, e1, .inl ⟨rfl, _, SqL.of q1⟩, ?_⟩
  obtain ⟨v2, e2, b, ys, rfl, p1, p2, p3, p4, p5⟩ := ok.sl i _ hi
  refine ⟨_, e2, .inl ⟨rfl, _, SqL.of p1⟩, ?_⟩
  refine h Z B H σ _ ok fun v d m1 B1 H1 o1 f1 i1 g1 => ?_
  obtain ⟨z, rfl, c, rfl, hc, y, hy, q⟩ := g1
  cases i1
  obtain ⟨v', e2', b', ys', hv, w1, w2, w3, w4, w5⟩ := o1.sl i _ hi
  subst hv
  rw [e2] at e2'
  cases e2'
  obtain ⟨yv, hyv, iy⟩ := w5.got hy
  have hlt : c < ys'.length := (List.getElem?_eq_some_iff.mp hyv).1
  refine ⟨b, ys', c, c, yv, rfl, rfl, w1, by omega, by omega, ?_, hyv, ?_⟩
  · unfold seqIndex?
    simp only [Int.toNat_natCast]
    have e0 : (if (c : Int) < 0 then (c : Int) + (ys'.length : Int) else (c : Int)) = c := if_neg (by omega)
    simp [e0, hlt]
  · obtain ⟨o2, f2⟩ := o1.grow hi e2 (w5.erase c)
    have hj2 : (ρ.set i (some (.own (ds.eraseIdx c))))[j]? =
        some (some (.own es)) := by
      rw [List.getElem?_set_ne hij]; exact hj
    obtain ⟨v3, e3, a', xs', hv3, x1, x2, x3, x4, x5⟩ := o2.sl j _ hj2
    subst hv3
    rw [e1] at e3
    cases e3
    refine ⟨a, xs', yv, rfl, rfl, x1, ?_, ?_⟩
    · rw [x5.length]
      exact Nat.lt_of_lt_of_le hl (by decide)
    · obtain ⟨o3, f3⟩ := o2.grow hj2 e1 (x5.append (.cons iy .nil))
      exact k _ _ m1 B1 _ o3 ((f1.trans f2).trans f3) q
/-! ### lists told as new -/
def SpF (K : PySem.W.Frag) (pre : Nat → List D → Prop)
    (Ψ : List D → Nat → Nat → List D → Prop) : Sp :=
  fun vs H Q _ => ∃ a ws B ds m, vs = .ref a :: ws ∧ Same B H ∧
    Hand H a m ∧ B a = none ∧ IsAll K B ws ds ∧ pre m ds ∧
    ∀ p xs es m' B2 H2, Hand H2 a m' → Same B B2 → Same B2 H2 →
      (∀ b o, b ≠ a → H b = some o → H2 b = some o) →
      (∀ b, H b ≠ none → B b = none → B2 b = none) →
      H p = none → B2 p = none → p ≠ a → H2 p = some (.lst xs) →
      IsAll K B2 xs es → Ψ ds m m' es → Q (.ref p) H2
theorem body_F {pre : Nat → List D → Prop}
    {Ψ : List D → Nat → Nat → List D → Prop} {vs : List V}
    {Q : VK} {E : XK} {N : List Str} {j : Nat} (h : SpF K pre Ψ vs H Q E)
    (hb : ∀ a ds m, pre m ds → vs.length = ds.length + 1 →
      SvC K (some a) ts (some .hand :: (datR ds ++
        List.replicate (N.length - (ds.length + 1)) none))
        m (fun m' ρ' => ∃ es, ρ'[j]? = some (some (.own es)) ∧ Ψ ds m m' es)
        fun _ _ => False) :
    tSeq ts (tRet (tVar j)) { nx := fun _ H' => Q .non H', rt := Q }
      (start N vs) H := by
  obtain ⟨a, ws, B, ds, m, rfl, sb, hh, hB, is, hp, k⟩ := h
  have hl := is.length
  have ok : Ok K (some a) (fun b => H b ≠ none ∧ B b = none ∧ b ≠ a) m B H
      (start N (.ref a :: ws)) (some .hand :: (datR ds ++
        List.replicate (N.length - (ds.length + 1)) none)) := by
    refine ⟨⟨sb, fun b e => ?_, fun z h => ⟨h.1, h.2.1, fun e => ?_⟩⟩,
      ?_, fun i s e => ?_, fun i j ds1 es b n e1 => ?_⟩
    · cases e
      exact ⟨hh, hB⟩
    · cases e
      exact h.2.2 rfl
    · unfold L2.start datR
      simp [hl]
    · cases i with
      | zero =>
        cases e
        exact ⟨.ref a, rfl, a, rfl, rfl⟩
      | succ i =>
        rw [List.getElem?_cons_succ] at e
        rcases Nat.lt_or_ge i ds.length with hi | hi
        · rw [List.getElem?_append_left (by unfold datR; simpa using hi)] at e
          obtain ⟨v, e2, q⟩ := isAll_get (l := some a)
            (Z := fun b => H b ≠ none ∧ B b = none ∧ b ≠ a) (H := H) is e
          refine ⟨v, ?_, q⟩
          unfold L2.start
          rw [List.map_cons, List.cons_append, List.getElem?_cons_succ,
            List.getElem?_append_left (by simpa [hl] using hi)]
          exact e2
        · rw [List.getElem?_append_right (by unfold datR; simpa using hi)] at e
          rw [List.getElem?_replicate] at e
          split at e <;> cases e
    · cases i with
      | zero => cases e1
      | succ i =>
        rw [List.getElem?_cons_succ] at e1
        rcases Nat.lt_or_ge i ds.length with hi | hi
        · rw [List.getElem?_append_left (by unfold datR; simpa using hi)] at e1
          unfold datR at e1
          rw [List.getElem?_map] at e1
          cases q : ds[i]? with
          | none => rw [q] at e1; cases e1
          | some d => rw [q] at e1; cases e1
        · rw [List.getElem?_append_right (by unfold datR; simpa using hi)] at e1
          rw [List.getElem?_replicate] at e1
          split at e1 <;> cases e1
  refine hb a ds m hp (by simp [hl]) _ B H _ _ ok
    (fun σ' ρ' m' B2 H2 o2 f2 g2 => ?_) fun v d m' B2 H2 o2 f2 i2 g2 => g2.elim
  obtain ⟨es, he, hΨ⟩ := g2
  obtain ⟨v, e1, p, xs, rfl, q1, q2, q3, q4, q5⟩ := o2.sl j _ he
  refine ⟨_, e1, ?_⟩
  have npa : p ≠ a := fun e => q4 (e ▸ rfl)
  have fresh : H p = none := by
    cases w : H p with
    | none => rfl
    | some o =>
      exfalso
      cases y : B p with
      | none => exact q3 ⟨by rw [w]; exact nofun, y, npa⟩
      | some x => rw [f2.sub p x y] at q2; cases q2
  refine k p xs es m' B2 H2 (o2.hand a rfl).1 f2.sub o2.sub
    (fun b o n e => ?_) (fun b h1 h2 => ?_) fresh q2 npa q1 q5 hΨ
  · cases q : B b with
    | none =>
      rw [f2.kept b ⟨by rw [e]; exact nofun, q, n⟩]
      exact e
    | some x =>
      rw [sb b x q] at e
      cases e
      exact o2.sub b _ (f2.sub b _ q)
  · by_cases n : b = a
    · subst n
      exact (o2.hand b rfl).2
    · exact (o2.zs b ⟨h1, h2, n⟩).2.1
theorem body_F2 {pre : Nat → List D → Prop}
    {Ψ : List D → Nat → Nat → List D → Prop} {vs : List V} {t1 t2 : TS}
    {Q : VK} {E : XK} {N : List Str} {j : Nat} (h : SpF K pre Ψ vs H Q E)
    (hb : ∀ a ds m, pre m ds → vs.length = ds.length + 1 →
      SvC K (some a) (tSeq t1 t2) (some .hand :: (datR ds ++
        List.replicate (N.length - (ds.length + 1)) none))
        m (fun m' ρ' => ∃ es, ρ'[j]? = some (some (.own es)) ∧ Ψ ds m m' es)
        fun _ _ => False) :
    tSeq t1 (tSeq t2 (tRet (tVar j))) { nx := fun _ H' => Q .non H', rt := Q }
      (start N vs) H := body_F (ts := tSeq t1 t2) h hb
/-- an expression that is a new list -/
def EvF (K : PySem.W.Frag) (l : Option Addr) (te : TE) (ρ : Ro) (m : Nat)
    (Ψ : Nat → List D → Prop) : Prop :=
  ∀ Z B H σ (Q : VK), Ok K l Z m B H σ ρ →
    (∀ p xs es m' B2 H2, Ok K l (fun a => Z a ∨ a = p) m' B2 H2 σ ρ →
      Fr Z B H B2 H2 → ¬ Z p → H2 p = some (.lst xs) → IsAll K B2 xs es →
      Ψ m' es → Q (.ref p) H2) → te σ H Q
theorem f_call {pre : Nat → List D → Prop}
    {Ψ : List D → Nat → Nat → List D → Prop} {Ξ : Nat → List D → Prop}
    {E : XK} {i : Nat} (hi : ρ[i]? = some (some .hand))
    (h : AvC K l tA ρ m fun m1 ds => pre m1 ds ∧
      ∀ m2 es, Ψ ds m1 m2 es → Ξ m2 es) :
    EvF K l (tCall (SpF K pre Ψ) [] E (tCons (tVar i) tA)) ρ m Ξ := by
  intro Z B H σ Q ok k
  obtain ⟨v0, e0, a, ha, hv⟩ := ok.sl i _ hi
  subst hv
  refine ⟨_, e0, ?_⟩
  refine h Z B H σ _ ok fun vs ds m1 B1 H1 o1 f1 i1 g1 => ?_
  show SpF K pre Ψ (V.ref a :: vs ++ []) H1 Q E
  rw [List.append_nil]
  refine ⟨a, vs, B1, ds, m1, rfl, o1.sub, (o1.hand a ha).1,
    (o1.hand a ha).2, i1, g1.1,
    fun p xs es m2 B2 H2 hh s1 s2 s3 s4 hp hp2 hpa e is hq => ?_⟩
  obtain ⟨o2, f2⟩ := o1.step (m' := m2) s1 s2
    (fun b e => by rw [ha] at e; cases e; exact hh)
    (fun b o n e => s3 b o (fun z => n (z ▸ ha)) e) s4
  have hz : ¬ Z p := fun z => (o1.zs p z).1 hp
  refine k p xs es m2 B2 H2 ?_ (f1.trans f2) hz e is (g1.2 m2 es hq)
  have own_ne : ∀ (i : Nat) ds b, ρ[i]? = some (some (.own ds)) →
      σ[i]? = some (some (.ref b)) → b ≠ p := by
    intro i ds b e1 e2 z
    obtain ⟨v, e3, b', xs', hv, w1, _⟩ := o1.sl i _ e1
    subst hv
    rw [e2] at e3
    cases e3
    rw [z, hp] at w1
    cases w1
  refine ⟨⟨o2.sub, o2.hand, fun z q => ?_⟩, o2.len, fun i s e1 => ?_, o2.dis⟩
  · rcases q with q | rfl
    · exact o2.zs z q
    · refine ⟨by rw [e]; exact nofun, hp2, fun w => hpa ?_⟩
      rw [ha] at w
      exact (Option.some.inj w).symm
  · obtain ⟨v, e2, q⟩ := o2.sl i s e1
    refine ⟨v, e2, ?_⟩
    cases s with
    | dat d => exact q
    | hand => exact q
    | own ds =>
      obtain ⟨b, ys, rfl, w1, w2, w3, w4, w5⟩ := q
      refine ⟨b, ys, rfl, w1, w2, fun z => ?_, w4, w5⟩
      rcases z with z | z
      · exact w3 z
      · exact own_ne i ds b e1 e2 z
end
end Wt

/-! A dict of new lists, popped one by one. -/
namespace Wt
open PySem PySem.Spec PyProof.Rows L2
abbrev rDct (K : PySem.W.Frag) : List V → Hp → VK → Prop := fun xs H Q =>
  ∃ (a : Addr) (ps : List Addr) (kvs : List (Key × V)), xs = [.ref a] ∧
    SqL K H a (ps.map V.ref) ∧
    Paired (fun p kv => SqT K H p [kV kv.1, kv.2]) ps kvs ∧
    ∀ p, H p = none → Q (.ref p) (upd H p (.dK (mergeK [] kvs)))
theorem paired_of {α β : Type} {R : α → β → Prop} : ∀ {xs : List α}
    {ys : List β}, xs.length = ys.length →
    (∀ (c : Nat) x y, xs[c]? = some x → ys[c]? = some y → R x y) →
    Paired R xs ys
  | [], [], _, _ => .nil
  | x :: xs, y :: ys, h, r => .cons (r 0 x y rfl rfl)
    (paired_of (by simpa using h) fun c a b e1 e2 =>
      r (c + 1) a b (by simpa using e1) (by simpa using e2))
  | [], _ :: _, h, _ => by simp at h
  | _ :: _, [], h, _ => by simp at h
theorem merge_val : ∀ (more kvs : List (Key × V)) (k : Key),
    (∃ v, (k, v) ∈ more) → ∃ (c : Nat) (v : V), more[c]? = some (k, v) ∧
      valV (mergeK kvs more) k = some v
  | [], _, _, h => by obtain ⟨v, hv⟩ := h; simp at hv
  | (k0, v0) :: r, kvs, k, h => by
    show ∃ (c : Nat) (v : V), _ ∧ valV (mergeK (putK kvs k0 v0) r) k = some v
    by_cases hr : ∃ v, (k, v) ∈ r
    · obtain ⟨c, v, h1, h2⟩ := merge_val r (putK kvs k0 v0) k hr
      exact ⟨c + 1, v, by simpa using h1, h2⟩
    · have e : k = k0 := by
        obtain ⟨v, hv⟩ := h
        rcases List.mem_cons.mp hv with z | z
        · exact (Prod.mk.inj z).1
        · exact absurd ⟨v, z⟩ hr
      subst e
      refine ⟨0, v0, rfl, ?_⟩
      have keep : ∀ (r kvs : List (Key × V)), (¬ ∃ v, (k, v) ∈ r) →
          valV (mergeK kvs r) k = valV kvs k := by
        intro r
        induction r with
        | nil => intro kvs _; rfl
        | cons p r ih =>
          intro kvs hn
          show valV (mergeK (putK kvs p.1 p.2) r) k = _
          rw [ih _ (fun ⟨v, hv⟩ => hn ⟨v, List.mem_cons_of_mem _ hv⟩),
            valV_put, if_neg]
          intro e
          exact hn ⟨p.2, by rw [e]; exact List.mem_cons_self⟩
      rw [keep r _ hr, valV_put, if_pos rfl]
section
variable {K : PySem.W.Frag} {l : Option Addr} {ρ : Ro} {m : Nat}
variable {Nx : Nat → Ro → Prop} {Rt : Nat → D → Prop}
variable {Z : Addr → Prop} {B H : Hp} {σ : L2.St}
theorem ints_of : ∀ {xs : List V} {L : List Int},
    IsAll K B xs (L.map D.int) → xs = L.map V.int
  | _, [], h => by cases h; rfl
  | _, n :: L, h => by
    cases h with
    | cons h r => cases h; rw [ints_of r]; rfl
theorem isAll_ints (L : List Int) : IsAll K B (L.map V.int) (L.map D.int) := by
  induction L with
  | nil => exact .nil
  | cons n L ih => exact .cons (.int n) ih
/-- what was popped, place by place -/
def PopR (hs : List Int) (pos : Int → List Int) (L : List Int) : Prop :=
  ∃ perm : Int → List Int, (∀ h ∈ hs, (perm h).Perm (pos h)) ∧
    L.length = hs.length ∧ ∀ (i : Nat) h, hs[i]? = some h →
      L[i]? = (perm h)[hs.count h - 1 - (hs.take i).count h]?
structure DW (K : PySem.W.Frag) (l : Option Addr) (Z : Addr → Prop) (ρ : Ro)
    (σ : L2.St) (B H : Hp) (A : Addr) (hs : List Int) (pos : Int → List Int)
    (i n : Nat) (B' H' : Hp) (ps qs : List Addr) (Ls : List (List Int)) :
    Prop where
  ok : Ok K l (fun a => Z a ∨ a = A ∨ a ∈ ps ∨ a ∈ qs) n B' H' σ ρ
  fr : Fr Z B H B' H'
  hA : H' A = some (.lst (ps.map V.ref))
  l1 : ps.length = i
  l2 : qs.length = i
  l3 : Ls.length = i
  tup : ∀ (c : Nat) p h q, ps[c]? = some p → hs[c]? = some h →
    qs[c]? = some q → ∃ o, H' p = some (.frz o (.tup [.int h, .ref q]))
  lst : ∀ (c : Nat) q L, qs[c]? = some q → Ls[c]? = some L →
    H' q = some (.lst (L.map V.int))
  nd : qs.Nodup
  nA : A ∉ ps ∧ A ∉ qs
  nz : ∀ q ∈ qs, ¬ Z q
  perm : ∀ (c : Nat) h L, hs[c]? = some h → Ls[c]? = some L → L.Perm (pos h)
theorem get_snoc2 {α : Type} {xs : List α} {y z : α} {c : Nat}
    (h : (xs ++ [y])[c]? = some z) :
    xs[c]? = some z ∨ c = xs.length ∧ z = y := by
  by_cases hc : c < xs.length
  · rw [List.getElem?_append_left hc] at h
    exact .inl h
  · have hc2 : c = xs.length := by
      have := (List.getElem?_eq_some_iff.mp h).1
      simp at this
      omega
    subst hc2
    rw [List.getElem?_append_right (Nat.le_refl _)] at h
    simp at h
    exact .inr ⟨rfl, h.symm⟩
theorem lt_get {α : Type} {xs : List α} {z : α} {c : Nat}
    (h : xs[c]? = some z) : c < xs.length := (List.getElem?_eq_some_iff.mp h).1
theorem dw_turn {A : Addr} {hs : List Int} {pos : Int → List Int}
    {i n k h : Nat} {B' H' : Hp} {ps qs : List Addr} {Ls : List (List Int)}
    {tM : TE} {hue : Int} {R : Hp → Prop} (hz : ¬ Z A) (hh : ρ[h]? = some none)
    (w : DW K l Z ρ σ B H A hs pos i n B' H' ps qs Ls) (hi : hs[i]? = some hue)
    (hi2 : i < 100000)
    (hF : EvF K l tM (ρ.set h (some (.dat (.int hue)))) n fun n2 es =>
      n2 ≤ n + k ∧ ∃ L : List Int, es = L.map D.int ∧ L.Perm (pos hue))
    (hR : ∀ n2 B2 H2 ps2 qs2 Ls2, n2 ≤ n + k →
      DW K l Z ρ σ B H A hs pos (i + 1) n2 B2 H2 ps2 qs2 Ls2 → R H2) :
    gName h (.int hue) (wipe σ [h]) H' fun σ2 H2 => wipe σ2 [h] = wipe σ [h] ∧
      tYes σ2 H2 fun b H3 => if b = true then
        tTupC (tCons (tVar h) (tCons tM tNil)) σ2 H3 fun y H4 =>
          ∃ acc, H4 A = some (.lst acc) ∧ acc.length < sizeLine ∧
            R (upd H4 A (.lst (acc ++ [y])))
      else R H3 := by
  have e1 : (wipe σ [h]).set h (some (.int hue)) = σ.set h (some (.int hue)) := by
    show (σ.set h none).set h _ = _
    rw [List.set_set]
  unfold gName tYes
  dsimp only
  rw [e1, if_pos rfl]
  have hlt : h < σ.length := by
    rw [w.ok.len]; exact lt_get hh
  refine ⟨?_, ?_⟩
  · show (σ.set h (some (.int hue))).set h none = σ.set h none
    rw [List.set_set]
  refine ⟨.int hue, List.getElem?_set_self hlt, ?_⟩
  refine hF _ B' H' _ _ (w.ok.set (.int hue))
    fun q xs es n2 B2 H2 o2 f2 hq eq2 is hΨ => ?_
  obtain ⟨hn2, L, rfl, hL⟩ := hΨ
  cases ints_of is
  refine ⟨by show 2 ≤ sizeLine; decide, fun T ob hT _ _ => ?_⟩
  have oT := o2.aside (o := .frz ob (.tup [.int hue, .ref q])) hT
  have nT : ∀ z, (Z z ∨ z = A ∨ z ∈ ps ∨ z ∈ qs) ∨ z = q → z ≠ T :=
    fun z hz e => (o2.zs z hz).1 (e ▸ hT)
  have kp : ∀ z, (Z z ∨ z = A ∨ z ∈ ps ∨ z ∈ qs) →
      upd H2 T (.frz ob (.tup [.int hue, .ref q])) z = H' z := fun z hz => by
    rw [upd_ne (nT z (.inl hz))]; exact f2.kept z hz
  have hqA : q ≠ A := fun e => hq (.inr (.inl e))
  have hqp : q ∉ ps := fun e => hq (.inr (.inr (.inl e)))
  have hqq : q ∉ qs := fun e => hq (.inr (.inr (.inr e)))
  have hTA : T ≠ A := fun e => nT A (.inl (.inr (.inl rfl))) e.symm
  refine ⟨ps.map V.ref, (kp A (.inr (.inl rfl))).trans w.hA, ?_, hR n2 B2 _
    (ps ++ [T]) (qs ++ [q]) (Ls ++ [L]) hn2 ?_⟩
  · rw [List.length_map, w.l1]
    exact Nat.lt_of_lt_of_le hi2 (by decide)
  have oW := (oT.write (p := A) (o := .lst ((ps ++ [T]).map V.ref))
    (.inl (.inl (.inr (.inl rfl))))).unset hh
  have up : ∀ z, z ≠ A → upd (upd H2 T (.frz ob (.tup [.int hue, .ref q]))) A
      (.lst ((ps ++ [T]).map V.ref)) z = upd H2 T (.frz ob (.tup [.int hue, .ref q])) z :=
    fun z hz => upd_ne hz
  rw [show ps.map V.ref ++ [V.ref T] = (ps ++ [T]).map V.ref by
    rw [List.map_append]; rfl]
  constructor
  · refine oW.less fun z hz => ?_
    rcases hz with hz | hz | hz | hz
    · exact .inl (.inl (.inl hz))
    · exact .inl (.inl (.inr (.inl hz)))
    · rcases List.mem_append.mp hz with hz | hz
      · exact .inl (.inl (.inr (.inr (.inl hz))))
      · exact .inr (List.mem_singleton.mp hz)
    · rcases List.mem_append.mp hz with hz | hz
      · exact .inl (.inl (.inr (.inr (.inr hz))))
      · exact .inl (.inr (List.mem_singleton.mp hz))
  · refine ⟨w.fr.sub.trans f2.sub, fun z hz' => ?_⟩
    rw [up z (fun e => hz (e ▸ hz')), kp z (.inl hz')]
    exact w.fr.kept z hz'
  · exact upd_same
  · simp [w.l1]
  · simp [w.l2]
  · simp [w.l3]
  · intro c p h' q' e1 e2 e3
    rcases get_snoc2 e1 with a1 | ⟨a1, rfl⟩
    · have hc : c < ps.length := lt_get a1
      have e3' : qs[c]? = some q' := by
        rw [List.getElem?_append_left (by rw [w.l2, ← w.l1]; exact hc)] at e3
        exact e3
      have hp := List.mem_of_getElem? a1
      rw [up p (fun e => w.nA.1 (e ▸ hp)), kp p (.inr (.inr (.inl hp)))]
      exact w.tup c p h' q' a1 e2 e3'
    · rw [w.l1] at a1
      subst a1
      rw [hi] at e2
      cases e2
      have e3' : q' = q := by
        rcases get_snoc2 e3 with a | ⟨_, a⟩
        · have := lt_get a
          rw [w.l2] at this
          omega
        · exact a
      subst e3'
      exact ⟨ob, by rw [up _ hTA, upd_same]⟩
  · intro c q' L' e1 e2
    rcases get_snoc2 e1 with a1 | ⟨a1, rfl⟩
    · have hc : c < qs.length := lt_get a1
      have e2' : Ls[c]? = some L' := by
        rw [List.getElem?_append_left (by rw [w.l3, ← w.l2]; exact hc)] at e2
        exact e2
      have hp := List.mem_of_getElem? a1
      rw [up q' (fun e => w.nA.2 (e ▸ hp)), kp q' (.inr (.inr (.inr hp)))]
      exact w.lst c q' L' a1 e2'
    · rw [w.l2] at a1
      subst a1
      have e2' : L' = L := by
        rcases get_snoc2 e2 with a | ⟨_, a⟩
        · have := lt_get a
          rw [w.l3] at this
          omega
        · exact a
      subst e2'
      rw [up _ hqA, upd_ne (nT _ (.inr rfl))]
      exact eq2
  · rw [List.nodup_append]
    refine ⟨w.nd, by simp, fun a ha b hb => ?_⟩
    rw [List.mem_singleton] at hb
    subst hb
    exact fun e => hqq (e ▸ ha)
  · refine ⟨fun e => ?_, fun e => ?_⟩
    · rcases List.mem_append.mp e with e | e
      · exact w.nA.1 e
      · exact hTA (List.mem_singleton.mp e).symm
    · rcases List.mem_append.mp e with e | e
      · exact w.nA.2 e
      · exact hqA (List.mem_singleton.mp e).symm
  · intro q' hq' z
    rcases List.mem_append.mp hq' with e | e
    · exact w.nz q' e z
    · rw [List.mem_singleton] at e
      subst e
      exact hq (.inl z)
  · intro c h' L' e1 e2
    rcases get_snoc2 e2 with a1 | ⟨a1, rfl⟩
    · exact w.perm c h' L' e1 a1
    · rw [w.l3] at a1
      subst a1
      rw [hi] at e1
      cases e1
      exact hL
theorem count_take {hs : List Int} {i : Nat} {h g : Int} (hi : hs[i]? = some h) :
    (hs.take (i + 1)).count g = (hs.take i).count g + if h = g then 1 else 0 := by
  rw [take_snoc' hi, List.count_append, List.count_singleton]
  by_cases e : h = g
  · simp [e]
  · simp [e]
theorem count_lt {hs : List Int} {i : Nat} {h : Int} (hi : hs[i]? = some h) :
    (hs.take i).count h < hs.count h := by
  have h1 := count_take (g := h) hi
  rw [if_pos rfl] at h1
  have h2 : (hs.take (i + 1)).count h ≤ hs.count h :=
    List.Sublist.count_le _ (List.take_sublist _ _)
  omega
theorem drop_last_take {α : Type} {xs : List α} {n : Nat} (h0 : 0 < n)
    (hn : n ≤ xs.length) : (xs.take n).dropLast = xs.take (n - 1) := by
  rw [List.dropLast_eq_take, List.take_take, List.length_take]
  congr 1
  omega
/-- the body of a def that draws an order of all that keeps a sort -/
theorem s_leads {h d k : Nat} {hs : List Int} {pos : Int → List Int} {tM : TE}
    (hh : ρ[h]? = some none) (hd : ρ[d]? = some none) (hhd : h ≠ d)
    (h1 : ρ[1]? = some (some (.dat (.tup (hs.map D.int)))))
    (hl : hs.length ≤ 1000) (hpos : ∀ g, (pos g).length = hs.count g)
    (hF : ∀ (i n : Nat) g, hs[i]? = some g → n ≤ m + k * i →
      EvF K l tM (ρ.set h (some (.dat (.int g)))) n fun n2 es =>
        n2 ≤ n + k ∧ ∃ L : List Int, es = L.map D.int ∧ L.Perm (pos g))
    (hq : ∀ n L, n ≤ m + k * hs.length → PopR hs pos L →
      Rt n (.tup (L.map D.int))) :
    SvC K l (tSeq (tAsg (tCB (rDct K) (tCons (tLc (iTup K (tVar 1)) (gName h)
        tYes (tTupC (tCons (tVar h) (tCons tM tNil))) [h]) tNil)) (gName d))
      (tRet (tCB (rTupC K) (tCons (tLc (iTup K (tVar 1)) (gName h) tYes
        (tBM0 K "list" rPop (tDGet (tVar d) (tVar h))) [h]) tNil))))
      ρ m Nx Rt := by
  intro Z B H σ W ok _ jr
  obtain ⟨v1, e1, z1⟩ := ok.sl 1 _ h1
  refine ⟨v1, e1, ?_⟩
  cases z1 with
  | @tup a us _ hT is =>
  have eus := ints_of is
  subst eus
  refine ⟨a, rfl, ⟨_, sameT ok.sub hT⟩, fun A hA => ?_⟩
  have hz : ¬ Z A := fun z => (ok.zs A z).1 hA
  refine lc_tup (xs := hs.map V.int) (fun i H' => ∃ n B' ps qs Ls,
    n ≤ m + k * i ∧ DW K l Z ρ σ B H A hs pos i n B' H' ps qs Ls)
    ⟨m, B, [], [], [], by omega, ?_⟩ (fun i H' _ w => ?_) (fun i x H' e w => ?_)
    fun H' w => ?_
  · refine ⟨?_, ?_, upd_same, rfl, rfl, rfl, ?_, ?_, .nil, ?_, ?_, ?_⟩
    · refine (ok.aside (o := .lst []) hA).less fun z hz => ?_
      rcases hz with hz | hz | hz | hz
      · exact .inl hz
      · exact .inr hz
      · simp at hz
      · simp at hz
    · exact ⟨Same.refl B, fun z hz' => upd_ne fun e => hz (e ▸ hz')⟩
    · intro c p h' q e; simp at e
    · intro c q L e; simp at e
    · simp
    · intro q hq; simp at hq
    · intro c h' L _ e; simp at e
  · obtain ⟨n, B', ps, qs, Ls, _, w⟩ := w
    exact sameT w.ok.sub (sameT w.fr.sub hT)
  · obtain ⟨n, B', ps, qs, Ls, hn, w⟩ := w
    rw [List.getElem?_map] at e
    cases eg : hs[i]? with
    | none => rw [eg] at e; cases e
    | some g =>
      rw [eg] at e
      cases e
      have hi := lt_get eg
      refine dw_turn (k := k) hz hh w eg (by omega) (hF i n g eg hn)
        fun n2 B2 H2 ps2 qs2 Ls2 h2 w2 => ⟨n2, B2, ps2, qs2, Ls2, ?_, w2⟩
      rw [Nat.mul_add, Nat.mul_one]
      omega
  · obtain ⟨n, B', ps, qs, Ls, hn, w⟩ := w
    rw [List.length_map] at hn w
    have l1 := w.l1
    have l2 := w.l2
    have l3 := w.l3
    refine ⟨A, ps, (hs.zip qs).map fun x => (Sum.inl x.1, V.ref x.2), rfl,
      SqL.of w.hA, paired_of (by simp; omega) (fun c p kv e2 e3 => ?_),
      fun Dd hDd => ?_⟩
    · have kvs_at := e3
      rw [List.getElem?_map] at kvs_at
      cases ez : (hs.zip qs)[c]? with
      | none => rw [ez] at kvs_at; cases kvs_at
      | some y =>
        rw [ez] at kvs_at
        cases kvs_at
        obtain ⟨y1, y2⟩ := List.getElem?_zip_eq_some.mp ez
        obtain ⟨o, ho⟩ := w.tup c p y.1 y.2 e2 y1 y2
        exact sqF ho
    -- the dict
    have look : ∀ g, ∃ x : Addr × List Int, g ∈ hs → ∃ c : Nat,
        hs[c]? = some g ∧ qs[c]? = some x.1 ∧ Ls[c]? = some x.2 ∧
        valV (mergeK [] ((hs.zip qs).map fun x => ((Sum.inl x.1 : Key), V.ref x.2)))
          (Sum.inl g) = some (.ref x.1) := by
      intro g
      by_cases hg : g ∈ hs
      · obtain ⟨c0, hc0⟩ := List.getElem?_of_mem hg
        have hc0l := lt_get hc0
        obtain ⟨q0, hq0⟩ : ∃ q, qs[c0]? = some q :=
          ⟨qs[c0]'(by omega), List.getElem?_eq_getElem _⟩
        obtain ⟨c, v, hv, hval⟩ := merge_val
          ((hs.zip qs).map fun x => ((Sum.inl x.1 : Key), V.ref x.2)) [] (Sum.inl g)
          ⟨.ref q0, List.mem_map.mpr ⟨(g, q0), List.mem_of_getElem? (i := c0)
            (List.getElem?_zip_eq_some.mpr ⟨hc0, hq0⟩), rfl⟩⟩
        rw [List.getElem?_map] at hv
        cases ez : (hs.zip qs)[c]? with
        | none => rw [ez] at hv; cases hv
        | some y =>
          rw [ez] at hv
          have e5 := Prod.mk.inj (Option.some.inj hv)
          obtain ⟨y1, y2⟩ := List.getElem?_zip_eq_some.mp ez
          have hcl := lt_get y2
          obtain ⟨L0, hL0⟩ : ∃ L, Ls[c]? = some L :=
            ⟨Ls[c]'(by omega), List.getElem?_eq_getElem _⟩
          refine ⟨(y.2, L0), fun _ => ⟨c, ?_, y2, hL0, ?_⟩⟩
          · rw [y1, Sum.inl.inj e5.1]
          · rw [hval, ← e5.2]
      · exact ⟨(0, []), fun z => absurd z hg⟩
    obtain ⟨f, hf⟩ := Classical.axiomOfChoice look
    generalize mergeK [] ((hs.zip qs).map fun x => ((Sum.inl x.1 : Key), V.ref x.2)) = KV at hf
    have qZ : ∀ g ∈ hs, (f g).1 ∈ qs := fun g hg => by
      obtain ⟨c, _, c2, _⟩ := hf g hg
      exact List.mem_of_getElem? c2
    have qinj : ∀ g ∈ hs, ∀ g' ∈ hs, g ≠ g' → (f g).1 ≠ (f g').1 := by
      intro g hg g' hg' n e
      obtain ⟨c, c1, c2, _⟩ := hf g hg
      obtain ⟨c', c1', c2', _⟩ := hf g' hg'
      have : c = c' := by
        have x1 := lt_get c2
        refine (List.getElem?_inj x1 w.nd).mp ?_
        rw [c2, c2', e]
      subst this
      rw [c1] at c1'
      exact n (Option.some.inj c1')
    have okA := w.ok.aside (o := .dK KV) hDd
    have ne : ∀ z, (Z z ∨ z = A ∨ z ∈ ps ∨ z ∈ qs) → z ≠ Dd :=
      fun z hz e => (w.ok.zs z hz).1 (e ▸ hDd)
    have h1a : (upd H' Dd (.dK KV)) Dd = some (.dK KV) := upd_same
    -- the second row
    have okB : Ok K l (fun a => Z a ∨ a = Dd ∨ a ∈ qs) n B'
        (upd H' Dd (.dK KV)) (σ.set d (some (.ref Dd))) ρ := by
      refine (okA.any hd).less fun z hz => ?_
      rcases hz with hz | hz | hz
      · exact .inl (.inl hz)
      · exact .inr hz
      · exact .inl (.inr (.inr (.inr hz)))
    have frB : Fr Z B H B' (upd H' Dd (.dK KV)) :=
      ⟨w.fr.sub, fun z hz' => by
        rw [upd_ne (ne z (.inl hz'))]; exact w.fr.kept z hz'⟩
    have qat : ∀ g ∈ hs, upd H' Dd (.dK KV) (f g).1 =
        some (.lst ((f g).2.map V.int)) ∧ (f g).2.Perm (pos g) := by
      intro g hg
      obtain ⟨c, c1, c2, c3, _⟩ := hf g hg
      refine ⟨?_, w.perm c g _ c1 c3⟩
      rw [upd_ne (ne _ (.inr (.inr (.inr (qZ g hg)))))]
      exact w.lst c _ _ c2 c3
    obtain ⟨v1', e1', z1'⟩ := okB.sl 1 _ h1
    refine ⟨v1', e1', ?_⟩
    generalize upd H' Dd (.dK KV) = H2 at *
    cases z1' with
    | @tup a2 us2 _ hT2 is2 =>
    have eus := ints_of is2
    subst eus
    refine ⟨a2, rfl, ⟨_, sameT okB.sub hT2⟩, fun A2 hA2 => ?_⟩
    have oC := okB.aside (o := .lst []) hA2
    have nA2 : ∀ z, (Z z ∨ z = Dd ∨ z ∈ qs) → z ≠ A2 :=
      fun z hz e => (okB.zs z hz).1 (e ▸ hA2)
    have hA2z : ¬ Z A2 := fun z => nA2 A2 (.inl z) rfl
    refine lc_tup (xs := hs.map V.int) (fun i H3 => ∃ (L : List Int) (B3 : Hp),
      Ok K l (fun a => (Z a ∨ a = Dd ∨ a ∈ qs) ∨ a = A2) n B3 H3
        (σ.set d (some (.ref Dd))) ρ ∧ Fr Z B H B3 H3 ∧ Same B' B3 ∧
      H3 Dd = some (.dK KV) ∧ H3 A2 = some (.lst (L.map V.int)) ∧ L.length = i ∧
      (∀ g ∈ hs, H3 (f g).1 = some (.lst (((f g).2.take
        (hs.count g - (hs.take i).count g)).map V.int))) ∧
      ∀ (c : Nat) g, c < i → hs[c]? = some g →
        L[c]? = (f g).2[hs.count g - 1 - (hs.take c).count g]?)
      ⟨[], B', oC, ?_, Same.refl _, ?_, upd_same, rfl, ?_, ?_⟩
      (fun i H3 _ w3 => ?_) (fun i x H3 e w3 => ?_) fun H3 w3 => ?_
    · exact ⟨frB.sub, fun z hz' => by
        rw [upd_ne (nA2 z (.inl hz'))]; exact frB.kept z hz'⟩
    · rw [upd_ne (nA2 Dd (.inr (.inl rfl)))]; exact h1a
    · intro g hg
      rw [upd_ne (nA2 _ (.inr (.inr (qZ g hg)))), (qat g hg).1]
      have : (f g).2.length = hs.count g := by
        rw [(qat g hg).2.length_eq, hpos]
      rw [List.take_zero, List.count_nil, Nat.sub_zero, ← this, List.take_length]
    · intro c g hc; omega
    · obtain ⟨L, B3, o3, _, sb, _⟩ := w3
      exact sameT o3.sub (sameT sb hT2)
    · obtain ⟨L, B3, o3, f3, sb, hD3, hA3, hL3, hq3, hc3⟩ := w3
      rw [List.getElem?_map] at e
      cases eg : hs[i]? with
      | none => rw [eg] at e; cases e
      | some g =>
      rw [eg] at e
      cases e
      have hg := List.mem_of_getElem? eg
      have hlt : h < (σ.set d (some (V.ref Dd))).length := by
        rw [List.length_set, ok.len]; exact lt_get hh
      have e5 : (wipe (σ.set d (some (V.ref Dd))) [h]).set h (some (.int g)) =
          (σ.set d (some (V.ref Dd))).set h (some (.int g)) := by
        show ((σ.set d (some (V.ref Dd))).set h none).set h _ = _
        rw [List.set_set]
      unfold gName tYes
      dsimp only
      rw [e5, if_pos rfl]
      refine ⟨?_, ?_⟩
      · show ((σ.set d (some (V.ref Dd))).set h (some (.int g))).set h none =
          (σ.set d (some (V.ref Dd))).set h none
        rw [List.set_set]
      have hdl : d < σ.length := by rw [ok.len]; exact lt_get hd
      refine ⟨.ref Dd, ?_, .int g, List.getElem?_set_self hlt, Dd,
        .ref (f g).1, rfl, ?_, ?_⟩
      · rw [List.getElem?_set_ne hhd, List.getElem?_set_self hdl]
      · obtain ⟨c, _, _, _, hv⟩ := hf g hg
        rw [← hv]
        exact DGet.k (k := Sum.inl g) hD3
      have hcnt := count_lt eg
      have hlen : (f g).2.length = hs.count g := by
        rw [(qat g hg).2.length_eq, hpos]
      have hx : ((f g).2.take (hs.count g - (hs.take i).count g)).length =
          hs.count g - (hs.take i).count g := by
        rw [List.length_take]; omega
      obtain ⟨y, hy⟩ : ∃ y, (f g).2[hs.count g - 1 - (hs.take i).count g]? =
          some y := ⟨(f g).2[hs.count g - 1 - (hs.take i).count g]'(by omega),
            List.getElem?_eq_getElem _⟩
      refine ⟨.inl ⟨rfl, _, SqL.of (hq3 g hg)⟩, (f g).1, _, .int y, rfl, rfl,
        hq3 g hg, ?_, ?_⟩
      · rw [List.length_map, hx, List.getElem?_map, List.getElem?_take_of_lt (by omega),
          show hs.count g - (hs.take i).count g - 1 =
            hs.count g - 1 - (hs.take i).count g by omega, hy]
        rfl
      have nqA : (f g).1 ≠ A2 := nA2 _ (.inr (.inr (qZ g hg)))
      have nqD : (f g).1 ≠ Dd := fun z => by
        have := hq3 g hg
        rw [z, hD3] at this
        cases this
      refine ⟨L.map V.int, ?_, ?_, L ++ [y], B3, ?_, ?_, sb, ?_, ?_, ?_, ?_, ?_⟩
      · rw [upd_ne (Ne.symm nqA)]; exact hA3
      · rw [List.length_map, hL3]
        have := lt_get eg
        rw [sizeLine_eq]
        omega
      · exact (o3.write (.inl (.inr (.inr (qZ g hg))))).write (.inr rfl)
      · refine ⟨f3.sub, fun z hz' => ?_⟩
        rw [upd_ne (nA2 z (.inl hz')), upd_ne]
        · exact f3.kept z hz'
        · intro z2
          exact w.nz _ (qZ g hg) (z2 ▸ hz')
      · rw [upd_ne (nA2 Dd (.inr (.inl rfl))), upd_ne (Ne.symm nqD)]
        exact hD3
      · rw [upd_same, List.map_append]; rfl
      · simp [hL3]
      · intro g' hg'
        rw [upd_ne (nA2 _ (.inr (.inr (qZ g' hg')))), count_take eg]
        by_cases eq : g = g'
        · subst eq
          rw [if_pos rfl, upd_same, ← List.map_dropLast,
            drop_last_take (by omega) (by omega)]
          rw [show hs.count g - (hs.take i).count g - 1 =
            hs.count g - ((hs.take i).count g + 1) by omega]
        · rw [if_neg eq, upd_ne (Ne.symm (qinj g hg g' hg' eq))]
          exact hq3 g' hg'
      · intro c g' hc hcg
        by_cases hci : c = i
        · subst hci
          rw [eg] at hcg
          cases hcg
          rw [List.getElem?_append_right (by omega), hL3, Nat.sub_self, hy]
          rfl
        · rw [List.getElem?_append_left (by omega)]
          exact hc3 c g' (by omega) hcg
    · obtain ⟨L, B3, o3, f3, sb, hD3, hA3, hL3, hq3, hc3⟩ := w3
      rw [List.length_map] at hL3 hc3
      refine ⟨A2, L.map V.int, rfl, .inl ⟨SqL.of hA3, fun p ob hp hd' _ => ?_⟩⟩
      obtain ⟨o4, f4⟩ := (o3.less (Z := Z) fun z hz => .inl (.inl hz)).new
        (o := .frz ob (.tup (L.map V.int))) hp
      refine jr _ _ n _ _ o4.toBs (f3.trans f4) (.newT upd_same hd'
        (isAll_ints L)) (hq n L hn ⟨fun g => (f g).2, fun g hg => (qat g hg).2,
          hL3, fun i g hi => hc3 i g (lt_get hi) hi⟩)
end
theorem pe_dgetR {X : Cx} {k : Nat} {o i : Expr} {td ty : TE} {pos : Pos}
    (hr : Room k X.A) (ho : PE X o td) (hi : PE X i ty) (hs : NoSl i) :
    PE X (.Subscript o i pos) (tDGet td ty) :=
  pe_dget (by have := hr.units; omega) ho hi hs
section
variable {X : Cx} {K : PySem.W.Frag} {o e : Expr} {es : List Expr} {to : TE}
variable {t : TA} {name : Str} {apos cpos : Pos} {T id : String}
variable {r : V → List V → Hp → VK → Prop}
theorem pe_bm0K (hK : X.K = K) (pa : PlainAttrs T) (slot : Slot T name id)
    (hty : typeOf (.builtin id) = pure (.type "method_descriptor"))
    (hm : MtR X id r) (ho : PE X o to)
    (hbase : attributeBase o name X.env (eval o X.env) = eval o X.env := by rfl)
    (hline : (apos.endLine == cpos.line) = true := by rfl) :
    PE X (.Call (.Attribute o name apos) [] [] cpos) (tBM0 K T r to) := by
  subst hK
  exact pe_bm0 pa slot hty hm ho hbase hline
end
section
variable {K : PySem.W.Frag} {l : Option Addr} {ρ : Ro} {m : Nat}
variable {Φ : Nat → D → Prop}
theorem eqs_int (i : Int) : Eqs (.int i) :=
  ⟨rfl, by
    unfold SeqAt.shaped
    rw [flat_lay (.int i) rfl, decide_eq_true (by simp [D.py, PyData.depth])]; rfl⟩
theorem eqv_int (i j : Int) : PyData.eqv (D.int i).py (D.int j).py =
    decide (i = j) := by
  rw [Bool.eq_iff_iff, eqv_iff _ _ rfl rfl, decide_eq_true_eq, D.int.injEq]
theorem v_eqDi {i j : Int} (q : Φ m (.bl (decide (i = j)))) :
    VvC K l ρ (fun vs H Q => ∃ x y, vs = [x, y] ∧ rEqD K x y H Q)
      [.int i, .int j] m Φ :=
  v_eqD (eqs_int i) (eqs_int j) (by rw [eqv_int]; exact q)
theorem v_neDi {i j : Int} (q : Φ m (.bl (!decide (i = j)))) :
    VvC K l ρ (fun vs H Q => ∃ x y, vs = [x, y] ∧ rNeD K x y H Q)
      [.int i, .int j] m Φ :=
  v_neD (eqs_int i) (eqs_int j) (by rw [eqv_int]; exact q)
end
end Wt

/-! sorted of a tuple of whole numbers; index. -/
namespace Wt
open PySem PySem.Spec PyProof.Rows L2
section
variable {prog : Program} {w : World} {A : Around}
variable {E : Value → Shared → Prop} {s : Shared}
theorem collect_tup {l : Addr} {vs : List Value}
    {Q : List Value → Shared → Prop} (hl : s.heap.IsTuple l vs.toArray)
    (h : Q vs { s with heap := ((s.heap.push (seqObj "list" #[] 0)).update
      s.heap.objs.size (Obj.mapSeq (· ++ vs.toArray))) })
    (hsz : vs.length ≤ sizeLine) :
    wpAny (model prog w) A (collect (.ref l)) Q E s := by
  obtain ⟨o, ho, hc, n, hd⟩ := id hl
  unfold collect
  refine wpAny_bind (wpAny_runValue
    (codeAny_builtin entry_proto_collect' ?_))
  show wpAny _ _ (do again (.builtin "list.__iadd__"
    ⟨[← newList [], .ref l], []⟩)) _ _ s
  refine wpAny_bind (wpAny_newList (wpAny_pure
    ⟨Code.quiet_builtin _ (by decide +kernel),
      codeAny_builtin entry_list_iadd' ?_⟩))
  show wpAny _ _ (Builtin.List.listExtendWith (.ref s.heap.objs.size)
    (.ref l) (.ref s.heap.objs.size)) _ _
    { s with heap := s.heap.push (seqObj "list" #[] 0) }
  unfold Builtin.List.listExtendWith
  have ho' : (s.heap.push (seqObj "list" #[] 0)).get? l = some o :=
    Heap.get?_push_of_some _ ho
  refine wpAny_bind (wpAny_typeOf (T := "tuple") ⟨o, ho', hc⟩ ?_)
  have ht : (Value.type "tuple" == Value.type "tuple") = true := by rfl
  rw [if_pos (by rw [ht]; simp)]
  refine wpAny_bind (listItems_at ho' hd ?_)
  refine wpAny_bind (listItems_at (xs := #[]) (n := 0)
    (Heap.get?_push_size _ rfl) rfl ?_)
  rw [if_neg (by simp)]
  refine wpAny_bind (listUpdate_at (xs := #[]) (n := 0)
    (Heap.get?_push_size _ rfl) rfl ?_ (Nat.zero_le _) (by
      show (#[] ++ vs.toArray).size ≤ sizeLine + 1
      simp only [Array.size_append, List.size_toArray, List.length_nil]
      omega))
  refine wpAny_pure ?_
  show wpAny (model prog w) A (do
      let o ← load s.heap.objs.size
      match o.data with
      | .seq xs _ => pure xs.toList
      | _ => unsupported "internal:collect") Q E
    { s with heap := ((s.heap.push (seqObj "list" #[] 0)).update
      s.heap.objs.size (Obj.mapSeq (· ++ vs.toArray))) }
  refine wpAny_bind (wpAny_load (get?_update_seq
    (Heap.get?_push_size _ rfl) _) ?_)
  show wpAny _ _ (pure ((#[] : Array Value) ++ vs.toArray).toList) Q E _
  rw [show ((#[] : Array Value) ++ vs.toArray).toList = vs by simp]
  exact wpAny_pure h
theorem sorted_tupI {l : Addr} {vs : List Value} {ns : List Int}
    {Q : Value → Shared → Prop} (hl : s.heap.IsTuple l vs.toArray)
    (hI : IntsAre vs ns) (h64 : vs.length < 64)
    (h : ∀ (out : Array Value) (ns' : List Int), IntsAre out.toList ns' →
      ns'.Perm ns → ns'.Pairwise (· ≤ ·) →
      Q (.ref (s.heap.objs.size + 1))
        { s with heap := sortedAll s.heap vs out }) :
    wpAny (model prog w) A (call (.builtin "sorted") [.ref l]) Q E s := by
  refine Calls.call_function_entry kind_sorted plain_sorted entry_sorted
    (args_sorted1 _) ?_
  unfold Builtin.«sorted»
  refine wpAny_bind (m := checkCount "sorted" 1 1 _) (wpAny_pure ?_)
  refine wpAny_bind (collect_tup hl ?_ (by rw [sizeLine_eq]; omega))
  refine wpAny_bind (wpAny_newList ?_)
  have hsz : ((s.heap.push (seqObj "list" #[] 0)).update s.heap.objs.size
      (Obj.mapSeq (· ++ vs.toArray))).objs.size = s.heap.objs.size + 1 := by
    rw [Heap.size_update, size_push']
  have hoL : (((s.heap.push (seqObj "list" #[] 0)).update s.heap.objs.size
      (Obj.mapSeq (· ++ vs.toArray))).push (seqObj "list" vs.toArray 0)).get?
      (s.heap.objs.size + 1) = some (seqObj "list" vs.toArray 0) := by
    rw [← hsz]; exact Heap.get?_push_size _ rfl
  show wpAny _ _ _ _ _ { s with heap := (((s.heap.push
    (seqObj "list" #[] 0)).update s.heap.objs.size
      (Obj.mapSeq (· ++ vs.toArray))).push (seqObj "list" vs.toArray 0)) }
  rw [hsz]
  refine wpAny_bind (wpAny_holding (wpAny_call_entry slot_list_sort
    ⟨_, hoL, rfl⟩ entry_list_sort (list_sort_tree hoL hI h64
      fun out ns' a1 a2 a3 => ⟨_, rfl, ?_⟩) (args_list_sort _)))
  exact wpAny_pure ⟨_, rfl, h out ns' a1 a2 a3⟩
end
def rSortT (K : PySem.W.Frag) : List V → Hp → VK → Prop := fun vs H Q =>
  ∃ (a : Addr) (ns : List Int), vs = [V.ref a] ∧
    SqT K H a (ns.map V.int) ∧ ns.length < 64 ∧
    ∀ (ns' : List Int) (p : Addr), ns'.Perm ns → ns'.Pairwise (· ≤ ·) →
      H p = none → Q (.ref p) (upd H p (.lst (ns'.map V.int)))
section
variable {X : Cx}
theorem cr_sortT : CallR X (.builtin "sorted") (rSortT X.K) := by
  intro pins s σ H vs us Q I r h
  obtain ⟨a, ns, rfl, hs, h64, q⟩ := h
  obtain ⟨its, rv, hl, _⟩ := I.tuple hs
  rw [Vals.ref1 r]
  have hi := rv.ints
  refine sorted_tupI (show s.heap.IsTuple a its.toArray from hl) hi
    (by rw [hi.length]; exact h64) fun out ns' h1 h2 h3 => ?_
  obtain ⟨ep, he'⟩ := PyProof.Rows.sortedAll_at s.heap its out
  have hlen : (ns'.map V.int).length ≤ sizeLine := by
    rw [List.length_map, h2.length_eq]; exact small64 h64
  exact ⟨.ref _, upd H (s.heap.objs.size + 1) (.lst (ns'.map V.int)),
    I.laid (t' := s.toks) (fun _ _ => PyProof.Rows.sortedAll_old)
      (Nat.le_succ _) ⟨hlen, out.toList, ep, vals_of_ints h1, he'⟩, rfl,
    q ns' _ h2 h3 (I.hok.fresh (Nat.le_succ _))⟩
variable {K : PySem.W.Frag} {o e : Expr} {es : List Expr} {to : TE}
variable {t : TA} {name : Str} {apos cpos : Pos} {T id : String}
variable {r : V → List V → Hp → VK → Prop}
theorem pe_bmK (hK : X.K = K) (pa : PlainAttrs T) (slot : Slot T name id)
    (hty : typeOf (.builtin id) = pure (.type "method_descriptor"))
    (hm : MtR X id r) (ho : PE X o to) (ha : PA X (e :: es) t)
    (hbase : attributeBase o name X.env (eval o X.env) =
      eval o X.env := by rfl)
    (hfew : ((backTo cpos (starEach (e :: es) X.env)).all (fun x => !x.1) &&
      (backToKw cpos (keywordEach [] X.env)).all (fun x => x.1.isSome) &&
      decide ((e :: es).length + ([] : List Keyword).length +
        (if ([] : List Keyword).isEmpty then 0 else 1) < 30)) = true := by rfl)
    (hline : (apos.endLine == cpos.line) = true := by rfl)
    (hs : starEach (e :: es) X.env =
      (false, eval e X.env) :: starEach es X.env := by rfl)
    (hplain : (backTo cpos (starEach es X.env)).any (·.1) = false := by rfl) :
    PE X (.Call (.Attribute o name apos) (e :: es) [] cpos)
      (tBM K T r to t) := by
  subst hK
  exact pe_bm pa slot hty hm ho ha hbase hfew hline hs hplain
end
section
variable {K : PySem.W.Frag} {l : Option Addr} {ρ : Ro} {m : Nat}
variable {Φ : Nat → D → Prop} {ta te : TE} {tA : TA}
theorem v_sortT {ns : List Int} (h : ns.length < 64)
    (q : ∀ ns' : List Int, ns'.Perm ns → ns'.Pairwise (· ≤ ·) →
      Φ m (.lst (ns'.map D.int))) :
    VvC K l ρ (rSortT K) [.tup (ns.map D.int)] m Φ := by
  intro Z B H σ vs Q ok is k
  obtain ⟨v, rfl, h2⟩ := isAll1 is
  cases h2 with
  | @tup a us _ hu r _ =>
    cases ints_of r
    refine ⟨a, ns, rfl, sameT ok.sub hu, h, fun ns' p h3 h4 hp => ?_⟩
    obtain ⟨o2, f2⟩ := ok.new (o := .lst (ns'.map V.int)) hp
    exact k _ _ m _ _ o2 f2 (.lst upd_same (isAll_ints ns')) (q ns' h3 h4)
theorem e_idxT (h : EvC K l ta ρ m fun m1 x => ∃ ns : List Int,
      x = .tup (ns.map D.int) ∧ EvC K l te ρ m1 fun m2 y =>
        ∃ n : Int, y = .int n ∧ ∃ j : Nat, ns[j]? = some n ∧
        (∀ c, c < j → ns[c]? ≠ some n) ∧ Φ m2 (.int j)) :
    EvC K l (tBMT (rIdx K) ta (tCons te tNil)) ρ m Φ := by
  intro Z B H σ Q ok k
  refine h Z B H σ _ ok fun v x m1 B1 H1 o1 f1 i1 g1 => ?_
  obtain ⟨ns, rfl, g1⟩ := g1
  have i1' := i1
  cases i1 with
  | @tup a us _ hu r hc =>
    refine ⟨a, rfl, hc.mono o1.sub, ?_⟩
    refine g1 Z B1 H1 σ _ o1 fun v2 y m2 B2 H2 o2 f2 i2 g2 => ?_
    obtain ⟨n, rfl, j, hj, hno, q⟩ := g2
    cases i2
    cases ints_of r
    exact ⟨a, ns, n, j, rfl, rfl, sameT o2.sub (sameT f2.sub hu), hj, hno,
      k _ _ m2 B2 H2 o2 (f1.trans f2) (.int _) q⟩
/-- l.index(x) of a list of whole numbers -/
theorem e_idxL (h : EvC K l ta ρ m fun m1 x => ∃ ns : List Int,
      x = .lst (ns.map D.int) ∧ EvC K l te ρ m1 fun m2 y =>
        ∃ n : Int, y = .int n ∧ ∃ j : Nat, ns[j]? = some n ∧
        (∀ c, c < j → ns[c]? ≠ some n) ∧ Φ m2 (.int j)) :
    EvC K l (tBM K "list" (rIndex K) ta (tCons te tNil)) ρ m Φ := by
  intro Z B H σ Q ok k
  refine h Z B H σ _ ok fun v x m1 B1 H1 o1 f1 i1 g1 => ?_
  obtain ⟨ns, rfl, g1⟩ := g1
  cases i1 with
  | @lst a us _ hu r =>
    cases ints_of r
    refine ⟨.inl ⟨rfl, _, SqL.of (o1.sub _ _ hu)⟩, ?_⟩
    refine g1 Z B1 H1 σ _ o1 fun v2 y m2 B2 H2 o2 f2 i2 g2 => ?_
    obtain ⟨n, rfl, j, hj, hno, q⟩ := g2
    cases i2
    refine ⟨a, _, .int n, j, .int n, rfl, rfl,
      SqL.of (o2.sub _ _ (f2.sub _ _ hu)), rfl, flat_ints ns, ?_, ?_, ?_,
      k _ _ m2 B2 H2 o2 (f1.trans f2) (.int _) q⟩
    · rw [List.getElem?_map, hj]; rfl
    · show (n == n) = true
      exact beq_self_eq_true n
    · intro c z hc hz
      rw [List.getElem?_map] at hz
      cases e : ns[c]? with
      | none => rw [e] at hz; cases hz
      | some y =>
        rw [e] at hz
        cases hz
        show (y == n) = false
        exact beq_eq_false_iff_ne.mpr fun z => hno c hc (z ▸ e)
/-- tuple(own) -/
theorem e_tupOwn {i : Nat} {ds : List D} (hi : ρ[i]? = some (some (.own ds)))
    (q : Φ m (.tup ds)) :
    EvC K l (tCB (rTupC K) (tCons (tVar i) tNil)) ρ m Φ := by
  intro Z B H σ Q ok k
  obtain ⟨v, e1, a, xs, rfl, q1, q2, q3, q4, q5⟩ := ok.sl i _ hi
  refine ⟨_, e1, a, xs, rfl, .inl ⟨SqL.of q1, fun p ob hp hd _ => ?_⟩⟩
  obtain ⟨o2, f2⟩ := ok.new (o := .frz ob (.tup xs)) hp
  exact k _ _ m _ _ o2 f2 (.newT upd_same hd (q5.mono f2.sub)) q
variable {Nx : Nat → Ro → Prop} {Rt : Nat → D → Prop}
/-- a, b = x, [] where b will grow -/
theorem s_parOwnR {i j : Nat} (hij : i ≠ j)
    (h : EvC K l te ρ m fun m1 y =>
      Nx m1 ((ρ.set i (some (.dat y))).set j (some (.own [])))) :
    SvC K l (tPar i j (tCons te (tCons (tLst tNil) tNil))) ρ m Nx Rt := by
  intro Z B H σ W ok kk _
  refine h Z B H σ _ ok fun v d m1 B1 H1 o1 f1 i1 g1 => ?_
  refine ⟨Nat.zero_le _, fun p hp => ?_⟩
  have hz : ¬ Z p := fun z => (o1.zs p z).1 hp
  have o2 := ((o1.aside (o := .lst []) hp).set (i := i) i1).setOwn (i := j)
    (ds := []) hz upd_same .nil
  exact ⟨v, .ref p, rfl, kk _ _ m1 B1 _ o2 (f1.trans
    ⟨Same.refl B1, fun z hz' => upd_ne fun e => hz (e ▸ hz')⟩) g1⟩
end
end Wt

/-! list(zip(xs, ys)) of two lists: a new list of new pairs. -/
namespace Wt
open PySem PySem.Spec PyProof.Rows L2 PySem.Calls
structure ZSt (xs ys : Array Value) (z TI TO i1 i2 l1 l2 S : Addr) (i : Nat) (h : Heap) : Prop where
  ti : IsPair h TI (.ref i1) (.ref i2)
  a1 : h.IsListIter i1 l1 i
  a2 : h.IsListIter i2 l2 i
  b1 : h.IsList l1 xs
  b2 : h.IsList l2 ys
  z : (IsZip h z TI TO .none ∧ ∃ a b, IsPair h TO a b) ∨
    ∃ T f oT, IsZipHeld h z TI TO T f ∧ h.get? T = some oT ∧ T ≠ z ∧ T ≠ i1 ∧ T ≠ i2 ∧ T ≠ S
section
variable {prog : Program} {w : World} {A : Around} {E : Value → Shared → Prop} {s : Shared}
variable {z TI TO i1 i2 l1 l2 S : Addr} {xs ys : Array Value}
theorem ZSt.keep {h h' : Heap} {i : Nat} (t : ZSt xs ys z TI TO i1 i2 l1 l2 S i h)
    (k : ∀ b o, b ≠ S → h.get? b = some o → h'.get? b = some o)
    (n : z ≠ S ∧ TI ≠ S ∧ TO ≠ S ∧ i1 ≠ S ∧ i2 ≠ S ∧ l1 ≠ S ∧ l2 ≠ S) :
    ZSt xs ys z TI TO i1 i2 l1 l2 S i h' := by
  obtain ⟨n1, n2, n3, n4, n5, n6, n7⟩ := n
  refine ⟨k _ _ n2 t.ti, t.a1.at fun o e => k _ _ n4 e, t.a2.at fun o e => k _ _ n5 e,
    t.b1.at fun o e => k _ _ n6 e, t.b2.at fun o e => k _ _ n7 e, ?_⟩
  rcases t.z with ⟨q, a, b, r⟩ | ⟨T, f, oT, q, r, m1, m2, m3, m4⟩
  · exact .inl ⟨k _ _ n1 q, a, b, k _ _ n3 r⟩
  · exact .inr ⟨T, f, oT, k _ _ n1 q, k _ _ m4 r, m1, m2, m3, m4⟩
theorem zl_item {i : Nat} {x y : Value} {Q : Option Value → Shared → Prop}
    (D : ZipApart z TI TO i1 i2 l1 l2) (t : ZSt xs ys z TI TO i1 i2 l1 l2 S i s.heap)
    (hS : S < s.heap.objs.size) (hx : xs[i]? = some x) (hy : ys[i]? = some y)
    (hQ : ∀ h', ZSt xs ys z TI TO i1 i2 l1 l2 S (i + 1) h' → IsPair h' s.heap.objs.size x y →
      h'.objs.size = s.heap.objs.size + 1 →
      (∀ c o, c ≠ z → c ≠ TO → c ≠ i1 → c ≠ i2 → s.heap.get? c = some o → h'.get? c = some o) →
      Q (some (.ref s.heap.objs.size)) { s with heap := h' }) :
    wpAny (model prog w) A (pyNext (.ref z)) Q E s := by
  have lt : ∀ {c o}, s.heap.get? c = some o → s.heap.objs.size ≠ c := fun e => Nat.ne_of_gt (Heap.lt_size e)
  have li1 : s.heap.objs.size ≠ i1 := by obtain ⟨_, e, _⟩ := t.a1; exact lt e
  have li2 : s.heap.objs.size ≠ i2 := by obtain ⟨_, e, _⟩ := t.a2; exact lt e
  rcases t.z with ⟨q, a, b, r⟩ | ⟨T, f, oT, q, r, m1, m2, m3, m4⟩
  · refine wpAny_pyNext_zip_item D q t.ti r t.a1 t.a2 t.b1 t.b2 hx hy fun h' z' TO' h1' h2' hT hsz hk => ?_
    exact hQ h' ⟨hk _ _ D.TIz D.TITO D.TIi1 D.TIi2 t.ti, h1', h2',
      t.b1.at fun o e => hk _ _ D.l1z D.l1TO D.l1i1 D.l1i2 e,
      t.b2.at fun o e => hk _ _ D.l2z D.l2TO D.l2i1 D.l2i2 e,
      .inr ⟨_, false, _, z', hT, lt q, li1, li2, Nat.ne_of_gt hS⟩⟩ hT hsz hk
  · refine wpAny_pyNext_zip_item_held D q r t.ti t.a1 t.a2 t.b1 t.b2 hx hy fun h' z' h1' h2' hT hsz hk => ?_
    exact hQ h' ⟨hk _ _ D.TIz D.TIi1 D.TIi2 t.ti, h1', h2',
      t.b1.at fun o e => hk _ _ D.l1z D.l1i1 D.l1i2 e,
      t.b2.at fun o e => hk _ _ D.l2z D.l2i1 D.l2i2 e,
      .inr ⟨T, true, oT, z', hk _ _ m1 m2 m3 r, m1, m2, m3, m4⟩⟩ hT hsz
      fun c o c1 _ c3 c4 e => hk c o c1 c3 c4 e
theorem zl_done {i : Nat} {Q : Option Value → Shared → Prop} (hh : A.handled = none)
    (D : ZipApart z TI TO i1 i2 l1 l2) (t : ZSt xs ys z TI TO i1 i2 l1 l2 S i s.heap)
    (he : xs[i]? = none ∨ ys[i]? = none)
    (hQ : ∀ h', (∀ c o, c ≠ z → c ≠ TO → c ≠ i1 → c ≠ i2 → s.heap.get? c = some o → h'.get? c = some o) →
      Q none { s with heap := h' }) :
    wpAny (model prog w) A (pyNext (.ref z)) Q E s := by
  rcases t.z with ⟨q, a, b, r⟩ | ⟨T, f, oT, q, r, m1, m2, m3, m4⟩
  · exact wpAny_pyNext_zip_end hh D q t.ti r t.a1 t.a2 t.b1 t.b2 he hQ
  · exact wpAny_pyNext_zip_end_held hh D q r t.ti t.a1 t.a2 t.b1 t.b2 he
      fun h' hk => hQ h' fun c o c1 _ c3 c4 e => hk c o c1 c3 c4 e
theorem zip_lenless : typeLookup (.type "zip") "__len__" = pure none :=
  am_miss_of_fast (by decide +kernel)
theorem zip_hintless : typeLookup (.type "zip") "__length_hint__" = pure none :=
  am_miss_of_fast (by decide +kernel)
/-- a zip tells no length: room is made ahead -/
theorem zl_room (t : s.TypeIs (.ref z) "zip") {Q : Bool → Shared → Prop}
    (q : Q true s) :
    wpAny (model prog w) A (Builtin.List.listLengthHint (.ref z)) Q E s := by
  have no : ∀ {α : Type} {m n : Sem α} {Q' : α → Shared → Prop},
      wpAny (model prog w) A n Q' E s →
      wpAny (model prog w) A (if false = true then m else n) Q' E s :=
    fun x => by rw [if_neg Bool.false_ne_true]; exact x
  rw [Builtin.List.listLengthHint]
  refine wpAny_bind (wpAny_specialOf t zip_lenless ?_)
  exact no (no (wpAny_bind (wpAny_specialOf t zip_hintless (wpAny_pure q))))
end
/-- the addresses of the first i pairs -/
def zlA (S i : Nat) : List Addr := (List.range i).map fun j => S + 1 + j
structure ZL (xs ys : Array Value) (S i : Nat) (h : Heap) : Prop where
  lst : ∃ c, h.get? S = some (Obj.mk (.type "list") none
    (.seq ((zlA S i).map Value.ref).toArray c) #[])
  two : ∀ j, j < i → ∃ x y, xs[j]? = some x ∧ ys[j]? = some y ∧
    IsPair h (S + 1 + j) x y
theorem zlA_snoc (S i : Nat) : zlA S (i + 1) = zlA S i ++ [S + 1 + i] := by
  rw [zlA, List.range_succ, List.map_append]; rfl
theorem zlA_len (S i : Nat) : (zlA S i).length = i := by
  rw [zlA, List.length_map, List.length_range]
theorem far2 {c S : Nat} (h : c < S) (j : Nat) : S + 1 + j ≠ c := by omega
theorem far {c S : Nat} (h : c < S) (k : Nat) : S + k ≠ c := by omega
section
variable {prog : Program} {w : World} {A : Around} {s : Shared}
variable {R : Result → Shared → Prop}
variable {z TI TO i1 i2 l1 l2 : Addr} {S : Nat} {xs ys : Array Value}
theorem zl_turns (quiet : A.handled = none) (D : ZipApart z TI TO i1 i2 l1 l2)
    (lo : z < S ∧ TI < S ∧ TO < S ∧ i1 < S ∧ i2 < S ∧ l1 < S ∧ l2 < S)
    (few : min xs.size ys.size ≤ sizeLine) (res : Value) {g : Heap}
    (fin : ∀ h' tk, (∀ b o, b < S → b ≠ z → b ≠ TO → b ≠ i1 → b ≠ i2 →
        g.get? b = some o → h'.get? b = some o) →
      ZL xs ys S (min xs.size ys.size) h' →
      R (.ok (.ret res)) { s with heap := h', toks := tk }) :
    ∀ (r i : Nat) (h : Heap) (tk : Nat), i + r = min xs.size ys.size →
      ZSt xs ys z TI TO i1 i2 l1 l2 S i h → ZL xs ys S i h → h.objs.size = S + 1 + i →
      (∀ b o, b < S → b ≠ z → b ≠ TO → b ≠ i1 → b ≠ i2 →
        g.get? b = some o → h.get? b = some o) →
      codeAny (model prog w) A (.builtin "list.extend.loop"
        ⟨[.ref S, .ref z, res], []⟩) R { s with heap := h, toks := tk } := by
  obtain ⟨b1, b2, b3, b4, b5, b6, b7⟩ := lo
  intro r
  induction r with
  | zero =>
    intro i h tk hi st zl hsz kp
    have hi : i = min xs.size ys.size := by omega
    subst hi
    refine codeAny_builtin PySem.F.entry_extend_loop (by
      rw [Around.under_plainId PySem.F.plain_extend_loop]
      exact wpAny_bind (zl_done (s := { s with heap := h, toks := tk })
        (A := A.in1) quiet D st (by
          rcases Nat.le_total xs.size ys.size with q | q
          · exact .inl (Array.getElem?_eq_none (by omega))
          · exact .inr (Array.getElem?_eq_none (by omega))) fun h' k => wpAny_pure (fin h' tk
            (fun b o u1 u2 u3 u4 u5 e => k b o u2 u3 u4 u5 (kp b o u1 u2 u3 u4 u5 e))
            ⟨let ⟨c, e⟩ := zl.lst; ⟨c, k _ _ (far b1 0) (far b3 0) (far b4 0) (far b5 0) e⟩,
              fun j hj => let ⟨x, y, e1, e2, e3⟩ := zl.two j hj
                ⟨x, y, e1, e2, k _ _ (far2 b1 j) (far2 b3 j) (far2 b4 j) (far2 b5 j) e3⟩⟩)))
  | succ r ih =>
    intro i h tk hi st zl hsz kp
    obtain ⟨c, eS⟩ := zl.lst
    have ex : xs[i]? = some xs[i] := Array.getElem?_eq_getElem (by omega)
    have ey : ys[i]? = some ys[i] := Array.getElem?_eq_getElem (by omega)
    refine codeAny_builtin PySem.F.entry_extend_loop (by
      rw [Around.under_plainId PySem.F.plain_extend_loop]
      refine wpAny_bind (zl_item (s := { s with heap := h, toks := tk }) (A := A.in1) D st
        (Heap.lt_size eS) ex ey fun h' st' tw sz k => ?_)
      have eS' : h'.get? S = some _ := k S _ (far b1 0) (far b3 0) (far b4 0) (far b5 0) eS
      have e1 : ((zlA S (i + 1)).map Value.ref).toArray =
          ((zlA S i).map Value.ref).toArray.push (.ref h.objs.size) := by
        rw [zlA_snoc, hsz]; simp
      refine wpAny_bind (m := updateSeq S (·.push (.ref h.objs.size))) ?_
      refine wpAny_updateSeq eS' rfl (wpAny_pure ⟨plainId_quiet PySem.F.plain_extend_loop _,
        ih (i + 1) _ tk (by omega) (st'.keep (fun b o n e => ?_) ?_) ⟨⟨_, by rw [e1]; exact Heap.get?_update_self _ eS' rfl⟩, fun j hj => ?_⟩ ?_
          fun b o u1 u2 u3 u4 u5 e => ?_⟩) ?_ ?_
      · exact (Heap.get?_update_other _ _ n.symm).trans e
      · exact ⟨Nat.ne_of_lt b1, Nat.ne_of_lt b2, Nat.ne_of_lt b3, Nat.ne_of_lt b4,
          Nat.ne_of_lt b5, Nat.ne_of_lt b6, Nat.ne_of_lt b7⟩
      · have up : ∀ q o, h'.get? (S + 1 + q) = some o →
            (h'.update S (Obj.mapSeq (·.push (.ref h.objs.size)))).get? (S + 1 + q) = some o :=
          fun q o e => (Heap.get?_update_other _ _ (by show S ≠ S + 1 + q; omega)).trans e
        rcases Nat.lt_or_ge j i with q | q
        · obtain ⟨x, y, e1, e2, e3⟩ := zl.two j q
          exact ⟨x, y, e1, e2, up j _ (k _ _ (far2 b1 j) (far2 b3 j) (far2 b4 j) (far2 b5 j) e3)⟩
        · have : j = i := by omega
          subst this
          refine ⟨_, _, ex, ey, up j _ ?_⟩
          rw [← hsz]; exact tw
      · rw [Heap.size_update, sz, hsz]; rfl
      · exact (Heap.get?_update_other _ _ (by show S ≠ b; omega)).trans (k b o u2 u3 u4 u5 (kp b o u1 u2 u3 u4 u5 e))
      · simp only [List.size_toArray, List.length_map, zlA_len]; omega
      · simp only [Array.size_push, List.size_toArray, List.length_map, zlA_len]; omega)
end
section
variable {prog : Program} {w : World} {A : Around} {E : Value → Shared → Prop}
variable {s : Shared} {z TI TO i1 i2 l1 l2 : Addr} {xs ys : Array Value}
/-- list(z) of a new zip: S the list's address -/
theorem zl_list {Q : Value → Shared → Prop} {S : Nat} (quiet : A.handled = none)
    (D : ZipApart z TI TO i1 i2 l1 l2) (eS : s.heap.objs.size = S)
    (lo : z < S ∧ TI < S ∧ TO < S ∧ i1 < S ∧ i2 < S ∧ l1 < S ∧ l2 < S)
    (few : min xs.size ys.size ≤ sizeLine)
    (st : ZSt xs ys z TI TO i1 i2 l1 l2 S 0 s.heap) (new : IsZip s.heap z TI TO .none)
    (q : ∀ h' tk, (∀ b o, b < S → b ≠ z → b ≠ TO → b ≠ i1 → b ≠ i2 →
        s.heap.get? b = some o → h'.get? b = some o) →
      ZL xs ys S (min xs.size ys.size) h' →
      Q (.ref S) { s with heap := h', toks := tk }) :
    wpAny (model prog w) A (call (.type "list") [.ref z]) Q E s := by
  have lz : (z : Nat) ≠ S := Nat.ne_of_lt lo.1
  refine callType_codes (Q₁ := fun v t => v = .ref S ∧
      t = { s with heap := s.heap.push (Obj.mk (.type "list") none (.seq #[] 0) #[]) })
    PySem.F.called_list (PySem.F.typeCall_list_1 _) PySem.F.entry_list_init
    (code_list_new _ ⟨by rw [eS], rfl⟩) fun v t ht => ?_
  obtain ⟨rfl, rfl⟩ := ht
  have g0 : (s.heap.push (Obj.mk (.type "list") none (.seq #[] 0) #[])).get? S =
      some (Obj.mk (.type "list") none (.seq #[] 0) #[]) := by
    rw [← eS]; exact Heap.get?_push_size _ rfl
  have k0 : ∀ b o, s.heap.get? b = some o →
      (s.heap.push (Obj.mk (.type "list") none (.seq #[] 0) #[])).get? b = some o :=
    fun b o e => Heap.get?_push_of_some _ e
  have z0 : (s.heap.push (Obj.mk (.type "list") none (.seq #[] 0) #[])).objs.size = S + 1 := by
    rw [Heap.size_push, eS]
  generalize s.heap.push (Obj.mk (.type "list") none (.seq #[] 0) #[]) = h0 at g0 k0 z0 ⊢
  have up : ∀ (h : Heap) (f : Array Value → Array Value) (b : Addr) (o : Obj), b ≠ S →
      h.get? b = some o → (h.update S (Obj.mapSeq f)).get? b = some o :=
    fun h f b o n e => (Heap.get?_update_other _ _ n.symm).trans e
  refine ⟨⟨_, g0, rfl⟩, PySem.F.args_list_init_2 _ _, ?_⟩
  have one : ∀ (h : Heap) (n : Nat), h.objs.size = S + 1 →
      (∀ b o, b ≠ S → s.heap.get? b = some o → h.get? b = some o) →
      h.get? S = some (Obj.mk (.type "list") none (.seq #[] n) #[]) → ∀ tk,
      codeAny (model prog w) A.in1 (.builtin "list.extend.loop"
        ⟨[.ref S, .ref z, .none], []⟩)
        (wants (fun r t => r = Value.none ∧ Q (.ref S) t) E)
        { s with heap := h, toks := tk } := fun h n hz hk hS tk =>
    zl_turns (A := A.in1) (s := s) (g := s.heap) quiet D lo few .none
      (fun h' tk' k' zl => ⟨rfl, q h' tk' k' zl⟩) _ 0 h tk (Nat.zero_add _)
      (st.keep hk ⟨lz, Nat.ne_of_lt lo.2.1, Nat.ne_of_lt lo.2.2.1, Nat.ne_of_lt lo.2.2.2.1,
        Nat.ne_of_lt lo.2.2.2.2.1, Nat.ne_of_lt lo.2.2.2.2.2.1, Nat.ne_of_lt lo.2.2.2.2.2.2⟩)
      ⟨⟨n, hS⟩, fun j hj => absurd hj (Nat.not_lt_zero j)⟩ hz
      fun b o u1 _ _ _ _ e => hk b o (Nat.ne_of_lt u1) e
  -- emptied, then made longer by all that the zip gives
  refine wpAny_bind (m := Builtin.List.listItems (.ref S)) ?_
  rw [Builtin.List.listItems]
  refine wpAny_bind (wpAny_seqItems g0 rfl
    (wpAny_pure ?_))
  refine wpAny_bind (m := updateSeq S fun _ => #[]) (wpAny_updateSeq g0 rfl ?_)
  have g1 := Heap.get?_update_self (Obj.mapSeq fun _ => (#[] : Array Value)) g0 rfl
  have k1 := up h0 (fun _ => #[])
  have z1 : (h0.update S (Obj.mapSeq fun _ => #[])).objs.size = S + 1 := by
    rw [Heap.size_update]; exact z0
  generalize h0.update S (Obj.mapSeq fun _ => #[]) = h1 at g1 k1 z1 ⊢
  refine wpAny_bind (wpAny_letGo ?_)
  have tz : ∀ tk, Shared.TypeIs { s with heap := h1, toks := tk } (.ref z) "zip" :=
    fun _ => ⟨_, k1 z _ lz (k0 z _ new), rfl⟩
  unfold Builtin.List.listExtendWith
  refine wpAny_bind (wpAny_typeOf (tz _) ?_)
  rw [if_neg (by
    rw [show Builtin.List.listSameRef (.ref S) (.ref z) = false from
      beq_eq_false_iff_ne.mpr fun e => lz e.symm]
    decide)]
  refine wpAny_bind (wpAny_pyIter_zip (k1 z _ lz (k0 z _ new))
    (wpAny_bind (wpAny_holding (zl_room (tz _) ?_))))
  rw [if_pos (by simp)]
  refine wpAny_bind (wpAny_rule (wpAny_bind ?_))
  refine wpAny_bind (m := updateSeq S (·.push .none)) (wpAny_updateSeq g1 rfl ?_)
  have g2 := Heap.get?_update_self (Obj.mapSeq (·.push Value.none)) g1 rfl
  have k2 := up h1 (·.push Value.none)
  have z2 : (h1.update S (Obj.mapSeq (·.push Value.none))).objs.size = S + 1 := by
    rw [Heap.size_update]; exact z1
  generalize h1.update S (Obj.mapSeq (·.push Value.none)) = h2 at g2 k2 z2 ⊢
  refine wpAny_updateSeq (hz := by seq_fits) g2 rfl (wpAny_pure
    ⟨plainId_quiet PySem.F.plain_extend_loop _, one _ _ ?_ ?_
      (Heap.get?_update_self _ g2 rfl) _⟩)
  · rw [Heap.size_update]; exact z2
  · exact fun b o n e => up h2 _ b o n (k2 b o n (k1 b o n (k0 b o e)))
end
section
variable {X : Cx} {pins : List (Addr × Obj)} {σ : L2.St} {H H' : Hp} {s : Shared}
/-- many new objects -/
theorem inv_many {h' : Heap} {t' : Nat} (I : Inv X pins σ H s)
    (k : ∀ b u, s.heap.get? b = some u → h'.get? b = some u)
    (hsub : ∀ a o, H a = some o → H' a = some o)
    (hold : ∀ a, a < s.heap.objs.size → H' a = H a)
    (new : ∀ a o, H' a = some o → s.heap.objs.size ≤ a → ObjOk X.prog X.w H' h' a o) :
    Inv X pins σ H' { s with heap := h', toks := t' } := by
  refine I.un ⟨fun b u q _ _ _ => k b u q, fun b u q _ _ _ => ⟨u.slots, k b u q⟩,
    fun b u q n _ => by rw [hold b (Heap.lt_size q)]; exact n, fun b u q _ => ⟨u, k b u q⟩,
    fun b xs q => hsub b _ q, fun b o u q => hsub b _ q,
    fun b ps q => ⟨#[], by rw [hsub b _ q]; simp⟩⟩ fun a o e => ?_
  rcases Nat.lt_or_ge a s.heap.objs.size with q | q
  · rw [hold a q] at e
    exact (I.hok a o e).stay (fun b u _ z => k b u z) (fun b z => hsub b _ z) fun b xs z => hsub b _ z
  · exact new a o e q
/-- new pairs, one by one -/
def NewTs : List (V × V) → Hp → (List Addr → Hp → Prop) → Prop
  | [], H, R => R [] H
  | xy :: r, H, R => ∀ (p : Addr) (o : Obj), H p = none → o.dict = none →
      NewTs r (upd H p (.frz o (.tup [xy.1, xy.2]))) fun ps H' => R (p :: ps) H'
/-- the pairs laid at these addresses -/
def layT : List (V × V) → List Addr → (Addr → Obj) → Hp → Hp
  | xy :: r, p :: ps, f, H => layT r ps f (upd H p (.frz (f p) (.tup [xy.1, xy.2])))
  | _, _, _, H => H
theorem layT_ne : ∀ {L : List (V × V)} {ps : List Addr} {f : Addr → Obj} {H : Hp} {a : Addr},
    a ∉ ps → layT L ps f H a = H a
  | [], _, _, _, _, _ => rfl
  | _ :: _, [], _, _, _, _ => rfl
  | xy :: L, p :: ps, f, H, a, h => by
    show layT L ps f _ a = _
    rw [layT_ne (fun z => h (List.mem_cons_of_mem _ z)),
      upd_ne (fun (z : a = p) => h (by rw [z]; exact List.mem_cons_self))]
theorem layT_at : ∀ {L : List (V × V)} {ps : List Addr} {f : Addr → Obj} {H : Hp} {j : Nat} {a : Addr}
    {xy : V × V}, ps.Nodup → ps[j]? = some a → L[j]? = some xy →
    layT L ps f H a = some (.frz (f a) (.tup [xy.1, xy.2]))
  | [], _, _, _, _, _, _, _, _, h => by simp at h
  | _ :: _, [], _, _, _, _, _, _, h, _ => by simp at h
  | x :: L, p :: ps, f, H, 0, a, xy, hn, h, h2 => by
    simp at h h2
    subst h h2
    show layT L ps f _ _ = _
    rw [layT_ne (List.nodup_cons.mp hn).1, upd_same]
  | x :: L, p :: ps, f, H, j + 1, a, xy, hn, h, h2 => by
    show layT L ps f _ a = _
    exact layT_at (List.nodup_cons.mp hn).2 (by simpa using h) (by simpa using h2)
theorem newTs_at : ∀ {L : List (V × V)} {ps : List Addr} {f : Addr → Obj} {H : Hp}
    {R : List Addr → Hp → Prop}, NewTs L H R → ps.Nodup → ps.length = L.length →
    (∀ p ∈ ps, H p = none ∧ (f p).dict = none) → R ps (layT L ps f H)
  | [], [], _, _, _, h, _, _, _ => h
  | xy :: L, p :: ps, f, H, R, h, hn, hl, hf => by
    have h1 := h p (f p) (hf p List.mem_cons_self).1 (hf p List.mem_cons_self).2
    refine newTs_at (R := fun ps H' => R (p :: ps) H') h1 (List.nodup_cons.mp hn).2 (by simpa using hl) fun q hq => ⟨?_, (hf q (List.mem_cons_of_mem _ hq)).2⟩
    rw [upd_ne (fun (z : q = p) => (List.nodup_cons.mp hn).1 (by rw [← z]; exact hq))]
    exact (hf q (List.mem_cons_of_mem _ hq)).1
/-- list(zip(e, e2)) of two lists -/
def tLZ (K : PySem.W.Frag) (ta : TA) : TE := fun σ H Q => ta σ H fun vs H1 =>
  ∃ a b xs ys, vs = [.ref a, .ref b] ∧ SqL K H1 a xs ∧ SqL K H1 b ys ∧
    NewTs (xs.zip ys) H1 fun ps H2 => ∀ l, H2 l = none → Q (.ref l) (upd H2 l (.lst (ps.map V.ref)))
theorem vals_refs : ∀ (ps : List Addr), Vals (ps.map V.ref) (ps.map Value.ref)
  | [] => .nil
  | _ :: ps => .cons rfl (vals_refs ps)
theorem pe_listZip {e e2 : Expr} {ta : TA} {p pos p2 pos2 : Pos} (hc : X.calm = true)
    (hg : Gl X "list") (hm : X.mg "list" = none)
    (hg2 : Gl X "zip") (hm2 : X.mg "zip" = none) (ha : PA X [e, e2] ta)
    (na : starEach [.Call (.Name "zip" p2) [e, e2] [] pos2] X.env =
      (false, eval (.Call (.Name "zip" p2) [e, e2] [] pos2) X.env) :: starEach [] X.env := by rfl)
    (hs : starEach [e, e2] X.env = (false, eval e X.env) :: starEach [e2] X.env := by rfl)
    (hpl : (backTo pos2 (starEach [e2] X.env)).any (·.1) = false := by rfl) :
    PE X (.Call (.Name "list" p) [.Call (.Name "zip" p2) [e, e2] [] pos2] [] pos) (tLZ X.K ta) := by
  refine ⟨fun pins s σ H Q I h => ?_⟩
  refine Call_ (ld_blt I hg hm boot_list (PyProof.Rows.callWith_type1 (args_cons ?_ na) na))
  refine Call_ (ld_blt I hg2 hm2 PyProof.Rows.boot_zip (PyProof.Rows.callWith_type1
    (thn (ha.run pos2 pins s σ H _ I h) fun us s1 ⟨vs, H1, I1, r1, q1⟩ => ?_) hs hpl))
  obtain ⟨a, b, xs, ys, rfl, hqx, hqy, q⟩ := q1
  cases r1 with
  | cons r rr =>
    cases rr with
    | cons r' rr =>
      cases rr
      cases r
      cases r'
      obtain ⟨its, rv, p1, hz1⟩ := I1.list hqx
      obtain ⟨its2, rv2, p2, hz2⟩ := I1.list hqy
      have la : a < s1.heap.objs.size := p1.lt
      have lb : b < s1.heap.objs.size := p2.lt
      refine call_zip_2 p1.isList p2.isList fun h' hz hTI hTO h1 h2 hsz hk => args_nil ?_
      have l1 := rv.length
      have l2 := rv2.length
      have p1' : h'.IsList a its.toArray := p1.isList.at fun o e => hk _ _ e
      have p2' : h'.IsList b its2.toArray := p2.isList.at fun o e => hk _ _ e
      obtain ⟨S, eS⟩ : ∃ S : Nat, S = s1.heap.objs.size + 5 := ⟨_, rfl⟩
      have lt : ∀ k : Nat, k < 5 → s1.heap.objs.size + k < S := fun k hk => by omega
      have lt' : ∀ c : Nat, c < s1.heap.objs.size → c < S := fun c hc => by omega
      refine zl_list (s := { s1 with heap := h' }) (S := S) (I1.ok.hd hc)
        (PySem.W.ktu_apart s1.heap.objs.size a b la lb) (hsz.trans eS.symm)
        ⟨lt 4 (by decide), lt 2 (by decide), lt 3 (by decide), lt 0 (by decide),
          lt 1 (by decide), lt' _ la, lt' _ lb⟩
        (by simp only [List.size_toArray]; omega)
        ⟨hTI, h1, h2, p1', p2', .inl ⟨hz, _, _, hTO⟩⟩ hz fun h2' tk hk2 zl => ?_
      dsimp only at hk2 ⊢
      obtain ⟨n, en⟩ : ∃ n, n = min its.toArray.size its2.toArray.size := ⟨_, rfl⟩
      rw [← en] at zl
      simp only [List.size_toArray] at en
      obtain ⟨as, eas⟩ : ∃ as, as = zlA S n := ⟨_, rfl⟩
      have at' : ∀ (j : Nat) (d : Addr), as[j]? = some d → j < n ∧ d = S + 1 + j := fun j d hj => by
        rw [eas, zlA, List.getElem?_map] at hj
        rcases Nat.lt_or_ge j n with q | q
        · rw [List.getElem?_range q] at hj
          exact ⟨q, (Option.some.inj hj).symm⟩
        · rw [List.getElem?_eq_none (by rw [List.length_range]; exact q)] at hj
          cases hj
      have mem' : ∀ d ∈ as, ∃ j, as[j]? = some d ∧ j < n ∧ d = S + 1 + j := fun d hd => by
        obtain ⟨j, hj⟩ := List.mem_iff_getElem?.mp hd
        exact ⟨j, hj, at' j d hj⟩
      have two : ∀ (j : Nat) (d : Addr), as[j]? = some d → ∃ x y, its.toArray[j]? = some x ∧
          its2.toArray[j]? = some y ∧ IsPair h2' d x y := fun j d hj => by
        obtain ⟨q, rfl⟩ := at' j d hj
        exact zl.two j q
      have hl : as.length = n := by rw [eas, zlA_len]
      have nd : as.Nodup := by
        rw [List.nodup_iff_pairwise_ne, List.pairwise_iff_getElem]
        intro i j hi hj hij e
        obtain ⟨_, q1⟩ := at' i _ (List.getElem?_eq_getElem hi)
        obtain ⟨_, q2⟩ := at' j _ (List.getElem?_eq_getElem hj)
        rw [e, q2] at q1
        have q1 : S + 1 + j = S + 1 + i := q1
        omega
      have lS : s1.heap.objs.size ≤ S := by omega
      have hlow : ∀ d ∈ as, s1.heap.objs.size ≤ d := fun d hd => by
        obtain ⟨j, _, _, rfl⟩ := mem' d hd
        show s1.heap.objs.size ≤ S + 1 + j
        omega
      have hSas : S ∉ as := fun z => by
        obtain ⟨j, _, _, e⟩ := mem' S z
        have e : S = S + 1 + j := e
        omega
      have hlen : as.length = (xs.zip ys).length := by
        rw [hl, List.length_zip, en, l1, l2]
      have f0 : ∃ f : Addr → Obj, ∀ d o, h2'.get? d = some o → f d = o :=
        ⟨fun d => (h2'.get? d).getD { cls := .type "tuple", data := .seq #[] }, fun d o e => by show (h2'.get? d).getD _ = o; rw [e]; rfl⟩
      obtain ⟨f, hf⟩ := f0
      have q' := newTs_at (ps := as) (f := f) q nd hlen fun d hd => ⟨I1.hok.fresh (hlow d hd), by
        obtain ⟨j, hj, _⟩ := mem' d hd
        obtain ⟨_, _, _, _, e⟩ := two j d hj
        rw [hf d _ e]⟩
      refine ⟨.ref S, _, ?_, rfl, q' S (by
        rw [layT_ne hSas]; exact I1.hok.fresh lS)⟩
      have hout : ∀ d, d < s1.heap.objs.size → upd (layT (xs.zip ys) as f H1) S (.lst (as.map V.ref)) d = H1 d :=
        fun d hd => by
          rw [upd_ne (fun (z : d = S) => Nat.lt_irrefl _ (Nat.lt_of_lt_of_le hd (z ▸ lS))),
            layT_ne (fun z => Nat.lt_irrefl _ (Nat.lt_of_lt_of_le hd (hlow d z)))]
      refine inv_many (t' := tk) I1 (fun d o e => ?_) (fun d o e => ?_) hout fun d o e hd => ?_
      · have hlt : (d : Nat) < s1.heap.objs.size := Heap.lt_size e
        have ne : ∀ k : Nat, d ≠ s1.heap.objs.size + k := fun k =>
          Nat.ne_of_lt (Nat.lt_of_lt_of_le hlt (Nat.le_add_right _ _))
        exact hk2 d o (lt' d hlt) (ne 4) (ne 3) (ne 0) (ne 1) (hk d o e)
      · rw [hout d (I1.hok.lt e)]; exact e
      · by_cases hdS : d = S
        · subst hdS
          rw [upd_same] at e
          cases e
          obtain ⟨c, ec⟩ := zl.lst
          rw [← eas] at ec
          exact ⟨by rw [List.length_map, hl]; omega, as.map Value.ref, c, vals_refs as, ec⟩
        · rw [upd_ne hdS] at e
          by_cases hda : d ∈ as
          · obtain ⟨j, hj⟩ := List.mem_iff_getElem?.mp hda
            obtain ⟨u, v, e1, e2, e3⟩ := two j d hj
            have j1 : j < its.length := by
              have := (Array.getElem?_eq_some_iff.mp e1).1
              simpa using this
            have j2 : j < its2.length := by
              have := (Array.getElem?_eq_some_iff.mp e2).1
              simpa using this
            obtain ⟨u', e1', ru⟩ := rv.get (i := j) (x := xs[j]'(by omega)) (List.getElem?_eq_getElem _)
            obtain ⟨v', e2', rv'⟩ := rv2.get (i := j) (x := ys[j]'(by omega)) (List.getElem?_eq_getElem _)
            have a1 : its[j]? = some u := by simpa using e1
            have a2 : its2[j]? = some v := by simpa using e2
            rw [a1] at e1'
            rw [a2] at e2'
            cases e1'
            cases e2'
            rw [layT_at (xy := (xs[j]'(by omega), ys[j]'(by omega))) nd hj (List.getElem?_zip_eq_some.mpr
              ⟨List.getElem?_eq_getElem _, List.getElem?_eq_getElem _⟩), hf d _ e3] at e
            cases e
            exact ⟨e3, by show 2 ≤ sizeLine; decide, [u, v], .cons ru (.cons rv' .nil), ⟨_, e3, rfl, _, rfl⟩⟩
          · rw [layT_ne hda, I1.hok.fresh hd] at e
            cases e
end
section
variable {K : PySem.W.Frag} {l : Option Addr} {ρ : Ro} {m : Nat}
variable {Φ : Nat → D → Prop} {tA : TA}
def zipD (xs ys : List D) : List D := (xs.zip ys).map fun p => .tup [p.1, p.2]
theorem newTs_ok : ∀ {us ws : List V} {xs ys : List D} {Z : Addr → Prop} {B H : Hp} {σ : L2.St}
    {R : List Addr → Hp → Prop}, Ok K l Z m B H σ ρ → IsAll K B us xs → IsAll K B ws ys →
    (∀ ps B2 H2, Ok K l Z m B2 H2 σ ρ → Fr Z B H B2 H2 → IsAll K B2 (ps.map V.ref) (zipD xs ys) → R ps H2) →
    NewTs (us.zip ws) H R
  | [], _, xs, _, Z, B, H, σ, R, ok, h, _, k => by
    cases h
    exact k [] B H ok Fr.refl .nil
  | _ :: _, [], x :: xs, _, Z, B, H, σ, R, ok, _, h, k => by
    cases h
    exact k [] B H ok Fr.refl .nil
  | u :: us, w :: ws, _, _, Z, B, H, σ, R, ok, h, h2, k => by
    cases h with
    | cons i1 r1 =>
      cases h2 with
      | cons i2 r2 =>
        intro p o hp hd
        obtain ⟨o2, f2⟩ := ok.new (o := .frz o (.tup [u, w])) hp
        refine newTs_ok o2 (r1.mono f2.sub) (r2.mono f2.sub) fun ps B2 H2 o3 f3 i3 => ?_
        refine k (p :: ps) B2 H2 o3 (f2.trans f3) (.cons ?_ i3)
        have s3 := (f2.trans f3).sub
        exact .newT (f3.sub _ _ upd_same) hd (.cons (i1.mono s3) (.cons (i2.mono s3) .nil))
theorem e_listZip (h : AvC K l tA ρ m fun m1 ds => ∃ xs ys, ds = [.lst xs, .lst ys] ∧
      Φ m1 (.lst (zipD xs ys))) : EvC K l (tLZ K tA) ρ m Φ := by
  intro Z B H σ Q ok k
  refine h Z B H σ _ ok fun vs ds m1 B1 H1 o1 f1 i1 g1 => ?_
  obtain ⟨xs, ys, rfl, q⟩ := g1
  obtain ⟨v, w, rfl, h1, h2⟩ := isAll2 i1
  cases h1 with
  | @lst a us _ h1 r1 =>
    cases h2 with
    | @lst b ws _ h2 r2 =>
      refine ⟨a, b, us, ws, rfl, SqL.of (o1.sub _ _ h1), SqL.of (o1.sub _ _ h2), ?_⟩
      refine newTs_ok o1 r1 r2 fun ps B2 H2 o2 f2 i2 p hp => ?_
      obtain ⟨o3, f3⟩ := o2.new (o := .lst (ps.map V.ref)) hp
      exact k _ _ m1 _ _ o3 (f1.trans (f2.trans f3)) (.lst upd_same (i2.mono f3.sub)) q
/-- a, b, c = a list of three -/
theorem s_unpL3 {i j k : Nat} {te : TE} {Nx : Nat → Ro → Prop} {Rt : Nat → D → Prop}
    (h : EvC K l te ρ m fun m1 d => ∃ x y z,
      d = .lst [x, y, z] ∧ Nx m1 (((ρ.set i (some (.dat x))).set j
        (some (.dat y))).set k (some (.dat z)))) :
    SvC K l (tAsg te (gLst K 3 (gCons (gName i) (gCons (gName j) (gCons (gName k) gNil))))) ρ m Nx Rt := by
  intro Z B H σ W ok kk _
  refine h Z B H σ _ ok fun v d m1 B1 H1 o1 f1 i1 g1 => ?_
  obtain ⟨x, y, z, rfl, q⟩ := g1
  cases i1 with
  | @lst a us _ hu r =>
    obtain ⟨u, w, v, rfl, h1, h2, h3⟩ := isAll3 r
    exact ⟨a, [u, w, v], rfl, SqL.of (o1.sub _ _ hu), rfl, u, [w, v], rfl, w, [v],
      rfl, v, [], rfl, rfl,
      kk _ _ m1 B1 H1 (((o1.set h1).set h2).set h3) f1 q⟩
end
end Wt

/-! A walk over a list or a tuple; count; rows with a test over a list; a list turned about. -/
namespace Wt
open PySem PySem.Spec PyProof.Rows L2
section
variable {X : Cx} {tg : Expr}
/-- for x in s, s a list or a tuple -/
def iSeq (K : PySem.W.Frag) (tl : TE) : TI := fun σ H R => tl σ H fun x H1 =>
  ∃ a, x = .ref a ∧ ((∃ xs, SqL K H1 a xs ∧ R (Itl K a) H1) ∨
    ∃ xs, SqT K H1 a xs ∧ R (Itt K a) H1)
theorem pi_seq {e : Expr} {tl : TE} (he : PE X e tl) : PI X tg e (iSeq X.K tl) := by
  constructor
  intro pins s σ H R I h
  refine thn (he.run pins s σ H _ I h) fun v t ⟨x, H1, J, rx, a, ex, q⟩ => ?_
  rw [ex] at rx
  cases rx
  have new : ∀ b ∈ [t.heap.objs.size], FpOk X pins H1 b := fun b hb => by
    cases List.mem_singleton.mp hb
    exact J.fpOk (Nat.le_refl _) (J.hok.fresh (Nat.le_refl _))
  have up : ∀ o b u, t.heap.get? b = some u → (t.heap.push o).get? b = some u :=
    fun o b u z => Heap.get?_push_of_some _ z
  rcases q with ⟨xs, hs, q⟩ | ⟨xs, hs, q⟩
  · obtain ⟨its, _, p, _⟩ := J.list hs
    exact wpAny_pyIter_list p.isList ⟨_, _, _, _, H1, rfl, J.kept (t' := t.toks) (up _),
      turn_list a _, ⟨_, Heap.get?_push_size _ rfl, rfl, rfl⟩, new, q⟩
  · obtain ⟨its, _, p, _⟩ := J.tuple hs
    exact wpAny_pyIter_tuple (items := its.toArray) p ⟨_, _, _, _, H1, rfl,
      J.kept (t' := t.toks) (up _), turn_tuple a _,
      ⟨_, Heap.get?_push_size _ rfl, rfl, rfl⟩, new, q⟩
/-! t.count(x) of whole numbers -/
def rCntT (K : PySem.W.Frag) : V → List V → Hp → VK → Prop := fun x xs H Q =>
  ∃ (p : Addr) (ns : List Int) (k : Int), x = .ref p ∧ xs = [.int k] ∧
    SqT K H p (ns.map V.int) ∧ Q (.int (ns.count k : Nat)) H
theorem mt_cntT : MtR X "tuple.count" (rCntT X.K) := by
  intro pins s σ H x xs v us Q I rx rs h
  obtain ⟨p, ns, k, e1, e2, hs, q⟩ := h
  subst e1 e2
  cases rx
  obtain ⟨u, eu, t, et⟩ := vals1 rs
  subst eu et
  obtain ⟨its, r, ⟨⟨cl, dd, dt, sl⟩, ho, hc, n, hd⟩, _⟩ := I.tuple hs
  simp only at hc hd
  subst hc hd
  have hi := ints_of_vals r
  refine call_meets PySem.F.slot_tuple_count ⟨_, ho, rfl⟩ PySem.F.entry_tuple_count
    (PySem.F.args_tuple_count_2 _ _)
    (SeqAt.tuple_countAt p its.toArray n dd sl (.int k t) (eqk k))
    ⟨ho, fun y hy => (eqk_gives hi y (by simpa using hy)).at _ _, ?_⟩
  have ec : its.toArray.toList.countP (eqk k) = ns.count k := eqk_count hi
  rw [ec]
  exact ⟨.int (ns.count k : Nat), H, I.tok _, ⟨_, rfl⟩, q⟩
end
section
variable {K : PySem.W.Frag} {l : Option Addr} {ρ : Ro} {m : Nat}
variable {Φ : Nat → D → Prop} {Nx : Nat → Ro → Prop} {Rt : Nat → D → Prop}
variable {ta te tl : TE} {tb : TS} {tt : TT}
theorem s_forS {j : Nat}
    (h : EvC K l tl ρ m fun m1 x => ∃ ds, (x = .lst ds ∨ x = .tup ds) ∧
      ∃ I : Nat → Nat → Ro → Prop, I 0 m1 ρ ∧
      (∀ i n ρ' d, ds[i]? = some d → I i n ρ' →
        SvC K l tb (ρ'.set j (some (.dat d))) n (fun n2 ρ2 =>
          I (i + 1) n2 ρ2) Rt) ∧
      ∀ n ρ', I ds.length n ρ' → Nx n ρ') :
    SvC K l (tFor (iSeq K tl) (gName j) tb) ρ m Nx Rt := by
  intro Z B H σ W ok k jr
  refine h Z B H σ _ ok fun v x m1 B1 H1 o1 f1 i1 g1 => ?_
  obtain ⟨ds, e, I, h0, hs, hd⟩ := g1
  rcases e with rfl | rfl
  · cases i1 with
    | @lst a xs ds hT is =>
      refine ⟨a, rfl, .inl ⟨xs, SqL.of (o1.sub _ _ hT), ?_⟩⟩
      refine for_list (xs := xs) (fun i σ' H' => ∃ n ρ' B',
        Ok K l Z n B' H' σ' ρ' ∧ Fr Z B1 H1 B' H' ∧ I i n ρ')
        ⟨m1, ρ, B1, o1, Fr.refl, h0⟩ (fun i σ' H' _ w => ?_)
        (fun i x σ' H' e w => ?_) fun σ' H' w => ?_
      · obtain ⟨n, ρ', B', ok', fr', _⟩ := w
        exact SqL.of (ok'.sub _ _ (fr'.sub _ _ hT))
      · obtain ⟨n, ρ', B', ok', fr', hI⟩ := w
        obtain ⟨d, e2, q⟩ := (is.mono fr'.sub).get e
        refine hs i n ρ' d e2 hI Z B' H' _ _ (ok'.set q)
          (fun σ2 ρ2 m2 B2 H2 o2 f2 g2 => ⟨m2, ρ2, B2, o2, fr'.trans f2, g2⟩)
          fun v d m2 B2 H2 o2 f2 i2 g2 => ?_
        exact jr v d m2 B2 H2 o2 ((f1.trans fr').trans f2) i2 g2
      · obtain ⟨n, ρ', B', ok', fr', hI⟩ := w
        rw [is.length] at hI
        exact k σ' ρ' n B' H' ok' (f1.trans fr') (hd n ρ' hI)
  · cases i1 with
    | @tup a xs ds hT is =>
      refine ⟨a, rfl, .inr ⟨xs, sameT o1.sub hT, ?_⟩⟩
      refine for_tup (xs := xs) (fun i σ' H' => ∃ n ρ' B',
        Ok K l Z n B' H' σ' ρ' ∧ Fr Z B1 H1 B' H' ∧ I i n ρ')
        ⟨m1, ρ, B1, o1, Fr.refl, h0⟩ (fun i σ' H' _ w => ?_)
        (fun i x σ' H' e w => ?_) fun σ' H' w => ?_
      · obtain ⟨n, ρ', B', ok', fr', _⟩ := w
        exact sameT ok'.sub (sameT fr'.sub hT)
      · obtain ⟨n, ρ', B', ok', fr', hI⟩ := w
        obtain ⟨d, e2, q⟩ := (is.mono fr'.sub).get e
        refine hs i n ρ' d e2 hI Z B' H' _ _ (ok'.set q)
          (fun σ2 ρ2 m2 B2 H2 o2 f2 g2 => ⟨m2, ρ2, B2, o2, fr'.trans f2, g2⟩)
          fun v d m2 B2 H2 o2 f2 i2 g2 => ?_
        exact jr v d m2 B2 H2 o2 ((f1.trans fr').trans f2) i2 g2
      · obtain ⟨n, ρ', B', ok', fr', hI⟩ := w
        rw [is.length] at hI
        exact k σ' ρ' n B' H' ok' (f1.trans fr') (hd n ρ' hI)
/-- t.count(x) -/
theorem e_cntT (h : EvC K l ta ρ m fun m1 x => ∃ ns : List Int,
      x = .tup (ns.map D.int) ∧ EvC K l te ρ m1 fun m2 y =>
        ∃ n : Int, y = .int n ∧ Φ m2 (.int (ns.count n : Nat))) :
    EvC K l (tBMT (rCntT K) ta (tCons te tNil)) ρ m Φ := by
  intro Z B H σ Q ok k
  refine h Z B H σ _ ok fun v x m1 B1 H1 o1 f1 i1 g1 => ?_
  obtain ⟨ns, rfl, g1⟩ := g1
  cases i1 with
  | @tup a us _ hu r hc =>
    cases ints_of r
    refine ⟨a, rfl, hc.mono o1.sub, ?_⟩
    refine g1 Z B1 H1 σ _ o1 fun v2 y m2 B2 H2 o2 f2 i2 g2 => ?_
    obtain ⟨n, rfl, q⟩ := g2
    cases i2
    exact ⟨a, ns, n, rfl, rfl, sameT o2.sub (sameT f2.sub hu),
      k _ _ m2 B2 H2 o2 (f1.trans f2) (.int _) q⟩
/-- l.count(x) of a list that grows -/
theorem e_cntOwn {i : Nat} {ns : List Int} (hi : ρ[i]? = some (some (.own (ns.map D.int))))
    (h : EvC K l te ρ m fun m1 y => ∃ n : Int, y = .int n ∧ Φ m1 (.int (ns.count n : Nat))) :
    EvC K l (tBM K "list" (rCntI K) (tVar i) (tCons te tNil)) ρ m Φ := by
  intro Z B H σ Q ok k
  obtain ⟨v, e1, a, xs, rfl, q1, _⟩ := ok.sl i _ hi
  refine ⟨_, e1, .inl ⟨rfl, _, SqL.of q1⟩, ?_⟩
  refine h Z B H σ _ ok fun v y m1 B1 H1 o1 f1 i1 g1 => ?_
  obtain ⟨n, rfl, q⟩ := g1
  cases i1
  obtain ⟨v', e1', a', xs', hv, w1, w2, w3, w4, w5⟩ := o1.sl i _ hi
  subst hv
  rw [e1] at e1'
  cases e1'
  cases ints_of w5
  exact ⟨a, ns, n, rfl, rfl, SqL.of w1, k _ _ m1 B1 H1 o1 f1 (.int _) q⟩
/-- xs[::-1] -/
theorem e_revL (h : EvC K l te ρ m fun m1 x => ∃ ds, x = .lst ds ∧
      Φ m1 (.lst ds.reverse)) : EvC K l (tRevL K te) ρ m Φ := by
  intro Z B H σ Q ok k
  refine h Z B H σ _ ok fun v x m1 B1 H1 o1 f1 i1 g1 => ?_
  obtain ⟨ds, rfl, q⟩ := g1
  cases i1 with
  | @lst a us _ hu r =>
    refine ⟨a, us, rfl, SqL.of (o1.sub _ _ hu), fun p hp => ?_⟩
    obtain ⟨o2, f2⟩ := o1.new (o := .lst us.reverse) hp
    exact k _ _ m1 _ _ o2 (f1.trans f2) (.lst upd_same (r.mono f2.sub).reverse) q
/-- [e for x in xs if t], told by a test and a function -/
theorem e_lcLxf {j : Nat} (hj : ρ[j]? = some none)
    (h : EvC K l tl ρ m fun m1 x => ∃ ds, x = .lst ds ∧
      ∃ (α : Type) (xs : List α) (g f : α → D) (p : α → Bool), ds = xs.map g ∧
      xs.length ≤ 50000 ∧
      (∀ (i : Nat) a, xs[i]? = some a →
        TvC K l tt (ρ.set j (some (.dat (g a)))) m1 fun n1 b => n1 = m1 ∧
          b = p a) ∧
      (∀ (i : Nat) a, xs[i]? = some a → EvC K l te (ρ.set j (some (.dat (g a)))) m1
        fun n2 y => n2 = m1 ∧ y = f a) ∧
      Φ m1 (.lst ((xs.filter p).map f))) :
    EvC K l (tLc (iList K tl) (gName j) tt te [j]) ρ m Φ := by
  intro Z B H σ Q ok k
  refine h Z B H σ _ ok fun v x m1 B1 H1 o1 f1 i1 g1 => ?_
  obtain ⟨ds, rfl, α, xs, g, f, p, rfl, hl, ht, hb, hq⟩ := g1
  cases i1 with
  | @lst a us _ hT is =>
    refine ⟨a, rfl, ⟨us, SqL.of (o1.sub _ _ hT)⟩, fun A hA => ?_⟩
    have hz : ¬ Z A := fun z => (o1.zs A z).1 hA
    refine lc_list (xs := us) (LcX K l Z ρ σ B1 H1 A fun i n acc => n = m1 ∧
        acc = ((xs.take i).filter p).map f)
      (lcx_start o1 hA ⟨rfl, rfl⟩) (fun i H' _ w => ?_) (fun i x H' e w => ?_)
      fun H' w => ?_
    · obtain ⟨n, acc, ys, B', ok', fr', _⟩ := w
      exact SqL.of (ok'.sub _ _ (fr'.sub _ _ hT))
    · have hi : i < us.length := (List.getElem?_eq_some_iff.mp e).1
      rw [is.length, List.length_map] at hi
      refine lcx_turn (P := fun d => d = g xs[i]) hz hj w
        (fun B' sb => ?_) (by omega) fun d n acc e hI => ?_
      · obtain ⟨d, e2, q⟩ := (is.mono sb).get e
        rw [List.getElem?_map, List.getElem?_eq_getElem hi] at e2
        exact ⟨d, q, (Option.some.inj e2).symm⟩
      · subst e
        obtain ⟨rfl, rfl⟩ := hI
        have ex : xs[i]? = some xs[i] := List.getElem?_eq_getElem hi
        refine t_imp (ht i _ ex) fun n1 b e => ?_
        obtain ⟨rfl, rfl⟩ := e
        rw [List.take_add_one, ex, Option.toList_some, List.filter_append, List.map_append,
          List.filter_cons]
        cases e : p xs[i] with
        | true =>
          rw [if_pos rfl]
          refine e_imp (hb i _ ex) fun n2 y e2 => ?_
          obtain ⟨rfl, rfl⟩ := e2
          exact ⟨rfl, by simp⟩
        | false =>
          rw [if_neg Bool.false_ne_true]
          exact ⟨rfl, by simp⟩
    · refine lcx_end hz w (fun n acc hI => ?_) fun v d m' B2 H2 o2 f2 i2 g2 =>
        k v d m' B2 H2 o2 (f1.trans f2) i2 g2
      obtain ⟨rfl, rfl⟩ := hI
      rw [is.length, List.length_map, List.take_length]
      exact hq
/-- [e for a, b in xs], told by a function -/
theorem e_lcL2f {i j : Nat} (hi : ρ[i]? = some none) (hj : ρ[j]? = some none) (hij : i ≠ j)
    (h : EvC K l tl ρ m fun m1 x => ∃ ds, x = .lst ds ∧
      ∃ (α : Type) (xs : List α) (g g' f : α → D), ds = xs.map (fun a => .tup [g a, g' a]) ∧
      xs.length ≤ 50000 ∧
      (∀ (c : Nat) a, xs[c]? = some a →
        EvC K l te ((ρ.set i (some (.dat (g a)))).set j (some (.dat (g' a)))) m1
          fun n2 y => n2 = m1 ∧ y = f a) ∧ Φ m1 (.lst (xs.map f))) :
    EvC K l (tLc (iList K tl) (g2 K i j) tYes te [i, j]) ρ m Φ := by
  refine e_lcL2 hi hj hij (e_imp h fun m1 x q => ?_)
  obtain ⟨ds, rfl, α, xs, g, g', f, rfl, hl, hb, hq⟩ := q
  refine ⟨_, rfl, by rw [List.length_map]; exact hl, fun d hd => ?_,
    fun c n acc => n = m1 ∧ acc = (xs.take c).map f, ⟨rfl, rfl⟩, fun c n acc d e hc hI _ => ?_,
    fun n acc _ hI => ?_⟩
  · obtain ⟨a, _, rfl⟩ := List.mem_map.mp hd
    exact ⟨_, _, rfl⟩
  · obtain ⟨rfl, rfl⟩ := hI
    rw [List.getElem?_map] at hc
    cases ea : xs[c]? with
    | none => rw [ea] at hc; cases hc
    | some a =>
      rw [ea] at hc
      cases hc
      refine e_imp (hb c a ea) fun n2 y e => ?_
      obtain ⟨rfl, rfl⟩ := e
      refine ⟨rfl, ?_⟩
      rw [List.take_add_one, ea, List.map_append]
      rfl
  · obtain ⟨rfl, rfl⟩ := hI
    rw [List.length_map, List.take_length]
    exact hq
end
/-- few great numbers can be shown -/
theorem shows_big {ns : List Int} (hl : ns.length ≤ 10) (h : ∀ n ∈ ns, n.natAbs.log2 < 900) :
    Shows (.lst (ns.map D.int)) := by
  refine ⟨?_, ?_, ?_, ?_⟩
  · rw [D.plain, plains_all, List.all_map, List.all_eq_true]
    exact fun x _ => rfl
  · rw [D.py, PyData.showable, pys_map, showableAll_all, List.all_map, List.all_map,
      List.all_eq_true]
    intro x hx
    show decide (x.natAbs.log2 < 1920) = true
    have := h x hx
    exact decide_eq_true (by omega)
  · have := depthAll_le (k := 0) (D.pys (ns.map D.int)) (fun x hx => by
      rw [pys_map, List.map_map] at hx
      obtain ⟨y, hy, rfl⟩ := List.mem_map.mp hx
      show PyData.depth (.int y) ≤ 0
      simp [PyData.depth])
    simp only [D.py, PyData.depth]
    omega
  · have q := PyData.shown_le 1000 (by decide) (D.lst (ns.map D.int)).py (by
      rw [D.py, PyData.leavesShort, pys_map, leavesShortAll_all, List.all_map, List.all_map,
        List.all_eq_true]
      intro x hx
      show decide ((PyData.shown (.int x)).length ≤ 1000) = true
      refine decide_eq_true ?_
      have e := int_text_length_le (a := x) (k := 900) (by decide) (h x hx)
      show (Str.ofString (toString x)).length ≤ 1000
      rw [PySem.ofString_length]
      omega)
    have w := weightAll_le (k := 900) (D.pys (ns.map D.int)) (fun x hx => by
      rw [pys_map, List.map_map] at hx
      obtain ⟨y, hy, rfl⟩ := List.mem_map.mp hx
      have := h y hy
      show PyData.weight (.int y) ≤ 900
      rw [PyData.weight]
      split <;> omega)
    rw [pys_map, List.length_map, List.length_map] at w
    have w2 : (D.lst (ns.map D.int)).py.weight ≤ 901 * 10 := by
      rw [D.py, PyData.weight, pys_map]
      refine Nat.le_trans w ?_
      first | exact Nat.mul_le_mul_left _ hl | exact Nat.mul_le_mul_right _ hl | omega
    rw [sizeLine_eq]
    omega
end Wt

/-! Truths reckoned with as numbers; defs that call themselves; how much data there is. -/
namespace Wt
open PySem PySem.Spec PyProof.Rows L2
section
variable {P : Program} {w : World} {K : PySem.W.Frag}
variable {mg : Str → Option Value} {base : Heap} {CX : CXT}
variable {k : Nat} {f : Addr} {fd : FuncData} {ps : List Str} {sp : Sp}
theorem fnG_no (h : ∀ vs H Q E, ¬ sp vs H Q E) : FnG P w K mg base CX k f fd ps sp :=
  ⟨fun vs H Q E q => (h vs H Q E q).elim, fun _ _ _ H _ _ vs Q E _ _ _ _ _ q => (h vs H Q E q).elim⟩
theorem fnOk_no (h : ∀ vs H Q E, ¬ sp vs H Q E) : FnOk P w K mg base CX k f fd ps sp :=
  ⟨fun vs H Q E q => (h vs H Q E q).elim, fun _ _ _ H _ _ vs Q E _ _ _ _ q => (h vs H Q E q).elim⟩
theorem spH_no {pre : Nat → List D → Prop} {Ψ : List D → Nat → Nat → D → Prop} {vs : List V}
    {H : Hp} {Q : VK} {E : XK} (h : ∀ m ds, ¬ pre m ds) : ¬ SpH K pre Ψ vs H Q E := by
  rintro ⟨l, ws, B, ds, m, _, _, _, _, _, q, _⟩
  exact h m ds q
end
/-- a number, or a truth as one -/
def numV : V → Option Int
  | .int i => some i
  | .bl b => some (if b = true then 1 else 0)
  | _ => none
def D.num : D → Option Int
  | .int i => some i
  | .bl b => some (if b = true then 1 else 0)
  | _ => none
section
variable {X : Cx}
def rNum (g : Int → Int → Int) : R2 := fun x y H Q => ∃ i j, numV x = some i ∧ y = .int j ∧
  Q (.int (g i j)) H
theorem op_addN : OpR X (binaryOp .Add) (rNum (· + ·)) := by
  intro pins s σ H x y v u Q I rx ry h
  obtain ⟨i, j, hi, rfl, q⟩ := h
  cases x with
  | int a => cases hi; exact op_add pins s σ H _ _ v u Q I rx ry ⟨_, j, rfl, rfl, q⟩
  | bl b =>
    cases hi
    cases rx
    obtain ⟨t, rfl⟩ := ry
    exact PySem.IntBool.add_bool_int ⟨.int _, H, I.tok _, ⟨_, rfl⟩, q⟩
  | _ => cases hi
theorem op_subN : OpR X (binaryOp .Sub) (rNum (· - ·)) := by
  intro pins s σ H x y v u Q I rx ry h
  obtain ⟨i, j, hi, rfl, q⟩ := h
  cases x with
  | int a => cases hi; exact op_sub pins s σ H _ _ v u Q I rx ry ⟨_, j, rfl, rfl, q⟩
  | bl b =>
    cases hi
    cases rx
    obtain ⟨t, rfl⟩ := ry
    exact PySem.IntBool.sub_bool_int ⟨.int _, H, I.tok _, ⟨_, rfl⟩, q⟩
  | _ => cases hi
/-- str(x) of a number or a truth -/
def rStrN : List V → Hp → VK → Prop := fun xs H Q =>
  (∃ i : Int, xs = [.int i] ∧ i.natAbs.log2 < 1920 ∧ Q (.str (toString i)) H) ∨
  ∃ b : Bool, xs = [.bl b] ∧ Q (.str (if b then "True" else "False")) H
theorem call_strN : CallR X (.type "str") rStrN := by
  intro pins s σ H xs us Q I r h
  rcases h with h | ⟨b, rfl, q⟩
  · exact call_str_int pins s σ H xs us Q I r h
  · obtain ⟨u, rfl, ru⟩ := vals1 r
    cases ru
    exact PySem.P.str_of_bool ⟨.str _, H, I.tok _, ⟨_, rfl⟩, q⟩
end
section
variable {K : PySem.W.Frag} {l : Option Addr} {ρ : Ro} {m : Nat} {Φ : Nat → D → Prop}
theorem v_num {g : Int → Int → Int} {d : D} {i j : Int} (h : d.num = some i)
    (q : Φ m (.int (g i j))) :
    VvC K l ρ (fun vs H Q => ∃ x y, vs = [x, y] ∧ rNum g x y H Q) [d, .int j] m Φ := by
  intro Z B H σ vs Q ok is k
  obtain ⟨v, w, rfl, h1, h2⟩ := isAll2 is
  cases h2
  refine ⟨_, _, rfl, i, j, ?_, rfl, k _ _ m B H ok Fr.refl (.int _) q⟩
  cases h1 <;> first | exact h | cases h
theorem itm_str (x : String) (h : x.length ≤ 60) : Itm 0 60 (.str (Str.ofString x)) := by
  have e : (Str.ofString x).cps.toList = x.toList.map Char.toNat := by
    rw [Str.ofString_eq_toList]
  refine ⟨rfl, by rw [D.py, PyData.showable], by simp [D.py, PyData.depth], ?_, ?_⟩
  · rw [D.py, PyData.leavesShort, e, List.all_map, List.all_eq_true]
    intro c _
    have := c.valid
    have h2 : c.toNat < 1114112 := by
      rcases this with q | q
      · exact Nat.lt_trans q (by decide)
      · exact q.2
    exact decide_eq_true (Nat.lt_trans h2 (by decide))
  · rw [D.py, PyData.weight, ← Array.length_toList, e, List.length_map]
    exact h
theorem v_strN {d : D} {k w : Nat} (h : Itm k w d) (hn : (d.num).isSome = true)
    (q : ∀ x : Str, Itm 0 60 (.str x) → Φ m (.str x)) :
    VvC K l ρ rStrN [d] m Φ := by
  intro Z B H σ vs Q ok is kk
  obtain ⟨v, rfl, h1⟩ := isAll1 is
  cases h1 with
  | int i =>
    have hi : i.natAbs.log2 < 1920 := by
      have := h.able
      simpa [D.py, PyData.showable] using this
    have hs : (toString i).length ≤ 60 := by
      have := h.short
      rw [D.py, PyData.leavesShort, decide_eq_true_eq] at this
      have e : (PyData.shown (.int i)).length = (toString i).length := PySem.ofString_length _
      omega
    exact .inl ⟨i, rfl, hi, kk _ _ m B H ok Fr.refl (.str _) (q _ (itm_str _ hs))⟩
  | bl b =>
    refine .inr ⟨b, rfl, kk _ _ m B H ok Fr.refl (.str _) (q _ ?_)⟩
    cases b
    · exact itm_str "False" (by decide)
    · exact itm_str "True" (by decide)
  | _ => cases hn
/-- t[-1] -/
theorem v_ixLast {ds : List D} {d : D} (q : Φ m d) :
    VvC K l ρ (fun vs H Q => ∃ x y, vs = [x, y] ∧ rIxT K x y H Q)
      [.tup (ds ++ [d]), .int (-1)] m Φ := by
  intro Z B H σ vs Q ok is k
  obtain ⟨v, w, rfl, h, h2⟩ := isAll2 is
  cases h2
  cases h with
  | tup h r =>
    obtain ⟨x, e, z⟩ := r.got (i := ds.length) (d := d) (by simp)
    refine ⟨_, _, rfl, _, _, -1, x, rfl, rfl, sameT ok.sub h, ?_,
      k _ _ m B H ok Fr.refl z q⟩
    have hl := r.length
    rw [List.length_append, List.length_singleton] at hl
    unfold atI ixN
    rw [if_neg (by decide), hl, if_pos (by omega)]
    show _[((-1 : Int) + ((ds.length + 1 : Nat) : Int)).toNat]? = _
    rw [show ((-1 : Int) + ((ds.length + 1 : Nat) : Int)).toNat = ds.length by omega]
    exact e
variable {Nx : Nat → Ro → Prop} {Rt : Nat → D → Prop} {tA : TA}
/-- x = [a, b, ..] that will grow -/
theorem s_ownL {i : Nat} (h : AvC K l tA ρ m fun m1 ds => ds.length ≤ 100000 ∧
      Nx m1 (ρ.set i (some (.own ds)))) : SvC K l (tAsg (tLst tA) (gName i)) ρ m Nx Rt := by
  intro Z B H σ W ok k _
  refine h Z B H σ _ ok fun vs ds m1 B1 H1 o1 f1 i1 g1 => ?_
  refine ⟨by rw [i1.length]; exact Nat.le_trans g1.1 (by decide), fun p hp => ?_⟩
  have hz : ¬ Z p := fun z => (o1.zs p z).1 hp
  exact k _ _ m1 B1 _ ((o1.aside (o := .lst vs) hp).setOwn hz upd_same i1) (f1.trans
    ⟨Same.refl B1, fun z hz' => upd_ne fun e => hz (e ▸ hz')⟩) g1.2
end
/-! how much a row of data is -/
structure Its (k w : Nat) (xs : List D) : Prop where
  plain : D.plains xs = true
  able : PyData.showableAll (D.pys xs) = true
  deep : PyData.depthAll (D.pys xs) ≤ k
  short : PyData.leavesShortAll 60 (D.pys xs) = true
  wt : PyData.weightAll (D.pys xs) ≤ w
section
variable {k w k' w' : Nat} {xs ys : List D} {x : D}
theorem Its.up (h : Its k w xs) (hk : k ≤ k') (hw : w ≤ w') : Its k' w' xs :=
  ⟨h.plain, h.able, Nat.le_trans h.deep hk, h.short, Nat.le_trans h.wt hw⟩
theorem Its.tup (h : Its k w xs) : Itm (k + 1) w (.tup xs) := by
  refine ⟨by rw [D.plain]; exact h.plain, by rw [D.py, PyData.showable]; exact h.able, ?_,
    by rw [D.py, PyData.leavesShort]; exact h.short, by rw [D.py, PyData.weight]; exact h.wt⟩
  rw [D.py, PyData.depth]
  have := h.deep
  omega
theorem Its.lst (h : Its k w xs) : Itm (k + 1) w (.lst xs) := by
  refine ⟨by rw [D.plain]; exact h.plain, by rw [D.py, PyData.showable]; exact h.able, ?_,
    by rw [D.py, PyData.leavesShort]; exact h.short, by rw [D.py, PyData.weight]; exact h.wt⟩
  rw [D.py, PyData.depth]
  have := h.deep
  omega
theorem Itm.its (h : Itm (k + 1) w (.tup xs)) : Its k w xs := by
  have h1 := h.plain
  have h2 := h.able
  have h3 := h.deep
  have h4 := h.short
  have h5 := h.wt
  rw [D.plain] at h1
  rw [D.py, PyData.showable] at h2
  rw [D.py, PyData.depth] at h3
  rw [D.py, PyData.leavesShort] at h4
  rw [D.py, PyData.weight] at h5
  exact ⟨h1, h2, by omega, h4, h5⟩
theorem Itm.deep1 (h : Itm k w (.tup xs)) : 1 ≤ k := by
  have h3 := h.deep
  rw [D.py, PyData.depth] at h3
  omega
theorem Its.nil : Its 0 0 [] := ⟨rfl, rfl, Nat.le_refl _, rfl, Nat.le_refl _⟩
theorem Its.cons (h : Itm k w x) (r : Its k w' xs) : Its k (w + 1 + w') (x :: xs) := by
  refine ⟨by rw [D.plains, h.plain, r.plain]; rfl, by rw [D.pys, PyData.showableAll, h.able, r.able]; rfl, ?_,
    by rw [D.pys, PyData.leavesShortAll, h.short, r.short]; rfl, ?_⟩
  · rw [D.pys, PyData.depthAll]
    exact Nat.max_le.mpr ⟨h.deep, r.deep⟩
  · rw [D.pys, PyData.weightAll]
    have := h.wt
    have := r.wt
    omega
theorem Its.head (r : Its k w (x :: xs)) : Itm k w x ∧ Its k w xs ∧
    x.py.weight + 1 + PyData.weightAll (D.pys xs) ≤ w := by
  have h1 := r.plain
  have h2 := r.able
  have h3 := r.deep
  have h4 := r.short
  have h5 := r.wt
  rw [D.plains, Bool.and_eq_true] at h1
  rw [D.pys, PyData.showableAll, Bool.and_eq_true] at h2
  rw [D.pys, PyData.depthAll] at h3
  rw [D.pys, PyData.leavesShortAll, Bool.and_eq_true] at h4
  rw [D.pys, PyData.weightAll] at h5
  have h3 := Nat.max_le.mp h3
  exact ⟨⟨h1.1, h2.1, h3.1, h4.1, by omega⟩, ⟨h1.2, h2.2, h3.2, h4.2, by omega⟩, h5⟩
theorem Its.app : ∀ {xs : List D} {w : Nat}, Its k w xs → Its k w' ys → Its k (w + w') (xs ++ ys)
  | [], w, _, r => r.up (Nat.le_refl _) (by omega)
  | x :: xs, w, h, r => by
    obtain ⟨h1, h2, h3⟩ := h.head
    have i := Its.app (xs := xs) (w := PyData.weightAll (D.pys xs)) ⟨h2.plain, h2.able, h2.deep, h2.short, Nat.le_refl _⟩ r
    have j : Its k (x.py.weight + 1 + (PyData.weightAll (D.pys xs) + w')) (x :: (xs ++ ys)) :=
      Its.cons ⟨h1.plain, h1.able, h1.deep, h1.short, Nat.le_refl _⟩ i
    exact j.up (Nat.le_refl _) (by omega)
theorem Its.sub : ∀ {xs ys : List D} {w : Nat}, ys.Sublist xs → Its k w xs → Its k w ys
  | _, _, _, .slnil, h => h
  | _, _, _, .cons a s, h => Its.sub s h.head.2.1
  | _, _, w, .cons₂ (l₂ := ys) (l₁ := zs) a s, h => by
    obtain ⟨h1, h2, h3⟩ := h.head
    have i := Its.sub s (w := PyData.weightAll (D.pys ys)) ⟨h2.plain, h2.able, h2.deep, h2.short, Nat.le_refl _⟩
    have j := Its.cons ⟨h1.plain, h1.able, h1.deep, h1.short, Nat.le_refl _⟩ i
    exact j.up (Nat.le_refl _) (by omega)
theorem Its.mem : ∀ {xs : List D}, Its k w xs → ∀ x ∈ xs, Itm k w x
  | x :: xs, h, y, hy => by
    rcases List.mem_cons.mp hy with q | q
    · rw [q]; exact h.head.1
    · exact Its.mem h.head.2.1 y q
end
/-! t == () -/
def rEqE (K : PySem.W.Frag) : R2 := fun x y H Q => ∃ a b xs, x = .ref a ∧ y = .ref b ∧
  SqT K H a xs ∧ SqT K H b [] ∧ Q (.bl xs.isEmpty) H
theorem op_eqE {X : Cx} (hu : X.A.units + 64 < cLine) : OpR X (compareOp .Eq) (rEqE X.K) := by
  intro pins s σ H x y v u Q I rx ry h
  obtain ⟨a, b, xs, rfl, rfl, ha, hb, q⟩ := h
  cases rx
  cases ry
  obtain ⟨its, r, pt, _⟩ := I.tuple ha
  obtain ⟨its2, r2, pt2, _⟩ := I.tuple hb
  cases r2
  refine SeqAt.eq_tupleAt (e := fun _ => true) (items := its.toArray) (items2 := [].toArray) pt pt2
    (by omega) (fun j _ h2 => absurd h2 (Nat.not_lt_zero j)) ?_
  refine ⟨.bl xs.isEmpty, H, I, ?_, q⟩
  have hl := r.length
  show Value.bool _ = Value.bool _
  congr 1
  cases xs with
  | nil => cases r; rfl
  | cons x xs => cases r; rfl
section
variable {K : PySem.W.Frag} {l : Option Addr} {ρ : Ro} {m : Nat} {Φ : Nat → D → Prop}
theorem v_eqE {ds : List D} (q : Φ m (.bl ds.isEmpty)) :
    VvC K l ρ (fun vs H Q => ∃ x y, vs = [x, y] ∧ rEqE K x y H Q) [.tup ds, .tup []] m Φ := by
  intro Z B H σ vs Q ok is k
  obtain ⟨v, w, rfl, h1, h2⟩ := isAll2 is
  cases h1 with
  | @tup a us _ h1 r1 _ =>
    cases h2 with
    | @tup b ws _ h2 r2 _ =>
      cases r2
      refine ⟨_, _, rfl, a, b, us, rfl, rfl, sameT ok.sub h1, sameT ok.sub h2,
        k _ _ m B H ok Fr.refl (.bl _) ?_⟩
      have : us.isEmpty = ds.isEmpty := by cases r1 <;> rfl
      rw [this]
      exact q
end
/-! small numbers within -/
mutual
def D.smallB (b : Int) : D → Bool
  | .int i => decide (-b ≤ i) && decide (i ≤ b)
  | .lst xs => D.smalls b xs
  | .tup xs => D.smalls b xs
  | _ => true
def D.smalls (b : Int) : List D → Bool
  | [] => true
  | x :: xs => D.smallB b x && D.smalls b xs
end
/-- data with small numbers, at most so deep, so much -/
structure Sm (b : Int) (k w : Nat) (d : D) : Prop where
  itm : Itm k w d
  sm : d.smallB b = true
structure Sms (b : Int) (k w : Nat) (xs : List D) : Prop where
  its : Its k w xs
  sm : D.smalls b xs = true
section
variable {b c : Int} {k w k' w' : Nat} {xs ys : List D} {x d : D}
theorem smalls_iff : ∀ {xs : List D}, D.smalls b xs = true ↔ ∀ x ∈ xs, x.smallB b = true
  | [] => by simp [D.smalls]
  | x :: xs => by
    rw [D.smalls, Bool.and_eq_true, smalls_iff (xs := xs)]
    simp
mutual
theorem smallB_up (h : b ≤ c) : ∀ d : D, d.smallB b = true → d.smallB c = true
  | .int i, q => by
    rw [D.smallB, Bool.and_eq_true, decide_eq_true_eq, decide_eq_true_eq] at q ⊢
    omega
  | .lst xs, q => by rw [D.smallB] at q ⊢; exact smalls_up h xs q
  | .tup xs, q => by rw [D.smallB] at q ⊢; exact smalls_up h xs q
  | .non, _ | .bl _, _ | .str _, _ | .dic _, _ | .ins _ _ _, _ | .scr _, _ => rfl
theorem smalls_up (h : b ≤ c) : ∀ xs : List D, D.smalls b xs = true → D.smalls c xs = true
  | [], _ => rfl
  | x :: xs, q => by
    rw [D.smalls, Bool.and_eq_true] at q ⊢
    exact ⟨smallB_up h x q.1, smalls_up h xs q.2⟩
end
theorem Sm.up (h : Sm b k w d) (hb : b ≤ c) (hk : k ≤ k') (hw : w ≤ w') : Sm c k' w' d :=
  ⟨h.itm.mono hk hw, smallB_up hb d h.sm⟩
theorem Sms.up (h : Sms b k w xs) (hb : b ≤ c) (hk : k ≤ k') (hw : w ≤ w') : Sms c k' w' xs :=
  ⟨h.its.up hk hw, smalls_up hb xs h.sm⟩
theorem Sms.tup (h : Sms b k w xs) : Sm b (k + 1) w (.tup xs) := ⟨h.its.tup, h.sm⟩
theorem Sms.lst (h : Sms b k w xs) : Sm b (k + 1) w (.lst xs) := ⟨h.its.lst, h.sm⟩
theorem Sm.sms (h : Sm b (k + 1) w (.tup xs)) : Sms b k w xs := ⟨h.itm.its, h.sm⟩
theorem Sms.nil : Sms b 0 0 [] := ⟨Its.nil, rfl⟩
theorem Sms.one (h : Sm b k w x) : Sms b k (w + 1) [x] :=
  ⟨(Its.cons h.itm (Its.nil.up (Nat.zero_le k) (Nat.le_refl 0))).up (Nat.le_refl _) (by omega),
    by rw [D.smalls, h.sm]; rfl⟩
theorem Sms.app (h : Sms b k w xs) (r : Sms b k w' ys) : Sms b k (w + w') (xs ++ ys) :=
  ⟨h.its.app r.its, smalls_iff.mpr fun x hx => (List.mem_append.mp hx).elim
    (smalls_iff.mp h.sm x) (smalls_iff.mp r.sm x)⟩
theorem Sms.sub (h : Sms b k w xs) (s : ys.Sublist xs) : Sms b k w ys :=
  ⟨h.its.sub s, smalls_iff.mpr fun x hx => smalls_iff.mp h.sm x (s.subset hx)⟩
theorem Sms.mem (h : Sms b k w xs) (hx : x ∈ xs) : Sm b k w x :=
  ⟨h.its.mem x hx, smalls_iff.mp h.sm x hx⟩
theorem Its.rev (h : Its k w xs) : Its k w xs.reverse := by
  have wr : ∀ ys : List D, PyData.weightAll (D.pys ys.reverse) = PyData.weightAll (D.pys ys) := by
    have wa : ∀ as bs : List D, PyData.weightAll (D.pys (as ++ bs)) =
        PyData.weightAll (D.pys as) + PyData.weightAll (D.pys bs) := by
      intro as bs
      induction as with
      | nil => simp [D.pys, PyData.weightAll]
      | cons a r ih =>
        rw [List.cons_append, D.pys, D.pys, PyData.weightAll, PyData.weightAll, ih]
        omega
    intro ys
    induction ys with
    | nil => rfl
    | cons a r ih =>
      rw [List.reverse_cons, wa, ih, D.pys, D.pys, D.pys, PyData.weightAll, PyData.weightAll, PyData.weightAll]
      omega
  refine ⟨?_, ?_, ?_, ?_, by rw [wr]; exact h.wt⟩
  · rw [plains_all, List.all_reverse, ← plains_all]; exact h.plain
  · have := h.able
    rw [pys_map, showableAll_all] at this ⊢
    rw [List.map_reverse, List.all_reverse]; exact this
  · refine depthAll_le (D.pys xs.reverse) fun x hx => ?_
    rw [pys_map, List.map_reverse, List.mem_reverse] at hx
    obtain ⟨y, hy, rfl⟩ := List.mem_map.mp hx
    exact (h.mem y hy).deep
  · have := h.short
    rw [pys_map, leavesShortAll_all] at this ⊢
    rw [List.map_reverse, List.all_reverse]; exact this
theorem Sms.rev (h : Sms b k w xs) : Sms b k w xs.reverse :=
  ⟨h.its.rev, smalls_iff.mpr fun x hx => smalls_iff.mp h.sm x (List.mem_reverse.mp hx)⟩
theorem Its.len : ∀ {xs : List D} {w : Nat}, Its k w xs → xs.length ≤ w
  | [], _, _ => Nat.zero_le _
  | x :: xs, w, h => by
    obtain ⟨_, h2, h3⟩ := h.head
    have := Its.len (xs := xs) (w := PyData.weightAll (D.pys xs)) ⟨h2.plain, h2.able, h2.deep, h2.short, Nat.le_refl _⟩
    rw [List.length_cons]
    omega
theorem cut_sub (xs : List D) (lo hi : Option Int) : (Wt.cutD xs lo hi).Sublist xs :=
  (List.take_sublist _ _).trans (List.drop_sublist _ _)
theorem sm_int {i : Int} (h : -9000 ≤ i) (h2 : i ≤ 9000) (hb : -b ≤ i) (hb2 : i ≤ b) : Sm b 0 15 (.int i) :=
  ⟨itm_int (by omega) (by omega), by
    rw [D.smallB, Bool.and_eq_true, decide_eq_true_eq, decide_eq_true_eq]; exact ⟨hb, hb2⟩⟩
end
end Wt

/-! More of truths as numbers: -x, bool(x). -/
namespace Wt
open PySem PySem.Spec PyProof.Rows L2
theorem gives_neg_truth (b : Bool) : Gives (Builtin.«int.__neg__» ⟨[.bool b], []⟩)
    (.int (-(if b = true then (1 : Int) else 0))) :=
  Gives.of_wp fun M A E s Q q => by
    obtain ⟨h, gs, dr, tk, o⟩ := s
    wp_walk
    exact ⟨_, rfl, q⟩
section
variable {X : Cx}
def rNegN : V → Hp → VK → Prop := fun x H Q => ∃ i, numV x = some i ∧ Q (.int (-i)) H
theorem un_negN : UnR X (unaryOp .USub) rNegN := by
  intro pins s σ H x v Q I rx h
  obtain ⟨i, hi, q⟩ := h
  cases x with
  | int a => cases hi; exact un_neg pins s σ H _ v Q I rx ⟨_, rfl, q⟩
  | bl b =>
    cases hi
    cases rx
    exact unaryOp_gives (op := .USub) (T := "bool") rfl rfl PySem.F.slot_bool_neg PySem.F.entry_int_neg
      (PySem.F.args_int_neg_1 _) (gives_neg_truth b) ⟨.int _, H, I.tok _, ⟨_, rfl⟩, q⟩
  | _ => cases hi
end
section
variable {K : PySem.W.Frag} {l : Option Addr} {ρ : Ro} {m : Nat} {Φ : Nat → D → Prop} {ta : TE}
theorem e_negN (h : EvC K l ta ρ m fun m1 d => ∃ i, d.num = some i ∧ Φ m1 (.int (-i))) :
    EvC K l (tUn rNegN ta) ρ m Φ := by
  refine e_un (e_imp h fun m1 d q => ?_)
  obtain ⟨i, hi, q⟩ := q
  intro Z B H σ vs Q ok is k
  obtain ⟨v, rfl, h1⟩ := isAll1 is
  refine ⟨_, rfl, i, ?_, k _ _ m1 B H ok Fr.refl (.int _) q⟩
  cases h1 <;> first | exact hi | cases hi
theorem v_boolN {d : D} (h : (d.num).isSome = true) (q : ∀ b, Φ m (.bl b)) :
    VvC K l ρ (fun xs H Q => (∃ i, xs = [.int i] ∧ Q (.bl (i != 0)) H) ∨ ∃ k, xs = [.bl k] ∧ Q (.bl k) H)
      [d] m Φ := by
  intro Z B H σ vs Q ok is k
  obtain ⟨v, rfl, h1⟩ := isAll1 is
  cases h1 with
  | int i => exact .inl ⟨i, rfl, k _ _ m B H ok Fr.refl (.bl _) (q _)⟩
  | bl b => exact .inr ⟨b, rfl, k _ _ m B H ok Fr.refl (.bl _) (q _)⟩
  | _ => cases h
end
theorem itm_mid {i : Int} (h1 : -(10 ^ 40) ≤ i) (h2 : i ≤ 10 ^ 40) : Itm 0 140 (.int i) := by
  have hl : i.natAbs.log2 < 140 :=
    PySem.Flt.log2_lt_of (by decide) (show i.natAbs < 2 ^ 140 by omega)
  have hs : (toString i).length ≤ 60 := by
    have := int_text_length_le10 (a := i) (k := 41) (by decide) (by omega)
    omega
  refine ⟨rfl, ?_, by simp [D.py, PyData.depth], ?_, ?_⟩
  · rw [D.py, PyData.showable]
    exact decide_eq_true (by omega)
  · rw [D.py, PyData.leavesShort]
    refine decide_eq_true ?_
    show (Str.ofString (toString i)).length ≤ 60
    rw [PySem.ofString_length]
    exact hs
  · rw [D.py, PyData.weight]
    split <;> omega
end Wt

/-! Defs with defaults, called with fewer arguments. -/
namespace Wt
open PySem PySem.Spec PyProof.Rows L2
section
variable {P : Program} {w : World} {K : PySem.W.Frag} {mg : Str → Option Value} {base : Heap}
/-- a def of the text with defaults -/
abbrev FunT (K : PySem.W.Frag) (x qual : Str) (st : Stmt) (dvs : List V) (f : Addr) (fd : FuncData) : Prop :=
  FunD K x qual (defArgs st) (defBody st) (defScope st) dvs [] f fd
theorem okT {x qual : Str} {st : Stmt} {dvs : List V} {f : Addr} {fd : FuncData} {N ps : List Str} {k : Nat} {sp : Sp}
    (F : FunT K x qual st dvs f fd) (S : FnScope N ps (defScope st)) (len : ∀ vs H Q E, sp vs H Q E → vs.length = ps.length)
    (hbody : ∀ (cdv : Value) (A : Around) (outer : List Env) (s : Shared) (H : Hp) (vs : List V) (Q : VK) (E : XK),
      Room k (A.deeper (envOfC qual (defScope st) s.heap.objs.size f cdv)) → sp vs H Q E →
      ∃ t, PSs (cxOf CX0 P w K mg base N qual (defScope st) f cdv A outer s H E).nox (defBody st) t ∧
        t { nx := fun _ H' => Q .non H', rt := Q } (start N vs) H) : FnOk P w K mg base CX0 (k + 1) f fd ps sp := by
  refine FunD.ok F S len fun cdv A outer s H vs Q E hr hsp => ?_
  obtain ⟨t, h, q⟩ := hbody cdv A outer s H vs Q E hr hsp
  exact ⟨t, h.nox, q⟩
theorem funT_mk {x qual : Str} {st : Stmt} {f T : Addr} {oc oc2 : Value} {od od2 an : Option Addr} {osl osl2 : Array (Option Value)}
    {kV doc pm cdv ct : Value} {its : List Value} {n : Nat} {dvs : List V} (hd : dvs ≠ []) (hv : Vals dvs its)
    (l : K.lookup f = some ⟨oc, od, .func (PySem.W.fnOf x qual (defArgs st) (defBody st) (defScope st) (.ref T) kV doc pm an cdv ct), osl⟩)
    (lT : K.lookup T = some ⟨oc2, od2, .seq its.toArray n, osl2⟩)
    (c : PySem.W.codeIn K cdv qual = true) (k : PySem.W.keepIn K (.ref f) = true) :
    FunT K x qual st dvs f (PySem.W.fnOf x qual (defArgs st) (defBody st) (defScope st) (.ref T) kV doc pm an cdv ct) :=
  ⟨⟨oc, od, _, kV, doc, pm, an, cdv, ct, osl, rfl, l, c, .inr ⟨hd, T, _, its, n, rfl, lT, rfl, hv⟩, .inl rfl⟩, k⟩
end
section
variable {K : PySem.W.Frag} {l : Option Addr} {ρ : Ro} {m : Nat}
variable {Φ : Nat → D → Prop} {tA : TA}
theorem isAll_app {B : Hp} {us : List V} {es : List D} (h : IsAll K B us es) : ∀ {vs : List V} {ds : List D}, IsAll K B vs ds → IsAll K B (vs ++ us) (ds ++ es)
  | [], [], .nil => h
  | _ :: _, _ :: _, .cons a r => .cons a (isAll_app h r)
theorem e_callPd {pre : List D → Prop} {F : List D → D} {E : XK} {dvs : List V} {dd : List D} (hd : ∀ B, IsAll K B dvs dd)
    (h : AvC K l tA ρ m fun m1 ds => pre (ds ++ dd) ∧ Φ m1 (F (ds ++ dd))) :
    EvC K l (tCall (SpP K pre F) dvs E tA) ρ m Φ := by
  intro Z B H σ Q ok k
  refine h Z B H σ _ ok fun vs ds m1 B1 H1 o1 f1 i1 g1 => ?_
  have i2 : IsAll K B1 (vs ++ dvs) (ds ++ dd) := isAll_app (hd _) i1
  exact v_P g1.1 g1.2 Z B1 H1 σ _ Q o1 i2 fun v d m2 B2 H2 o2 f2 i2 g2 =>
    k v d m2 B2 H2 o2 (f1.trans f2) i2 g2
theorem e_callPn {pre : List D → Prop} {F : List D → D} {E : XK}
    (h : AvC K l tA ρ m fun m1 ds => pre (ds ++ [.non]) ∧ Φ m1 (F (ds ++ [.non]))) :
    EvC K l (tCall (SpP K pre F) [.non] E tA) ρ m Φ := e_callPd (dd := [.non]) (fun _ => .cons .non .nil) h
theorem e_callPi {pre : List D → Prop} {F : List D → D} {E : XK} {i : Int}
    (h : AvC K l tA ρ m fun m1 ds => pre (ds ++ [.int i]) ∧ Φ m1 (F (ds ++ [.int i]))) :
    EvC K l (tCall (SpP K pre F) [.int i] E tA) ρ m Φ := e_callPd (dd := [.int i]) (fun _ => .cons (.int _) .nil) h
end
section
variable {K : PySem.W.Frag} {l : Option Addr} {ρ : Ro} {m : Nat}
variable {Φ : Nat → D → Prop} {Nx : Nat → Ro → Prop} {Rt : Nat → D → Prop} {ts tb : TS} {ta te tl : TE}
/-- for a, b, c in a list of triples -/
theorem s_forL3 {i j e : Nat}
    (h : EvC K l tl ρ m fun m1 x => ∃ ds, x = .lst ds ∧
      ∃ I : Nat → Nat → Ro → Prop, I 0 m1 ρ ∧
      (∀ c n ρ' d, ds[c]? = some d → I c n ρ' → ∃ x y z, d = .tup [x, y, z] ∧
        SvC K l tb (((ρ'.set i (some (.dat x))).set j (some (.dat y))).set e (some (.dat z))) n
          (fun n2 ρ2 => I (c + 1) n2 ρ2) Rt) ∧
      ∀ n ρ', I ds.length n ρ' → Nx n ρ') :
    SvC K l (tFor (iList K tl) (g3 K i j e) tb) ρ m Nx Rt := by
  intro Z B H σ W ok k jr
  refine h Z B H σ _ ok fun v x m1 B1 H1 o1 f1 i1 g1 => ?_
  obtain ⟨ds, rfl, I, h0, hs, hd⟩ := g1
  cases i1 with
  | @lst a xs ds hT is =>
    refine ⟨a, rfl, ⟨xs, SqL.of (o1.sub _ _ hT)⟩, ?_⟩
    refine for_list (xs := xs) (fun i σ' H' => ∃ n ρ' B',
      Ok K l Z n B' H' σ' ρ' ∧ Fr Z B1 H1 B' H' ∧ I i n ρ')
      ⟨m1, ρ, B1, o1, Fr.refl, h0⟩ (fun i σ' H' _ w => ?_)
      (fun c x σ' H' e w => ?_) fun σ' H' w => ?_
    · obtain ⟨n, ρ', B', ok', fr', _⟩ := w
      exact SqL.of (ok'.sub _ _ (fr'.sub _ _ hT))
    · obtain ⟨n, ρ', B', ok', fr', hI⟩ := w
      obtain ⟨d, e2, q⟩ := (is.mono fr'.sub).get e
      obtain ⟨y1, y2, y3, rfl, hb⟩ := hs c n ρ' d e2 hI
      cases q with
      | @tup T us _ hu r =>
        obtain ⟨u, w, v, rfl, p1, p2, p3⟩ := isAll3 r
        refine ⟨T, [u, w, v], rfl, sameT ok'.sub hu, rfl, u, [w, v], rfl, w, [v], rfl, v, [], rfl,
          rfl, ?_⟩
        refine hb Z B' H' _ _ (((ok'.set p1).set p2).set p3)
          (fun σ2 ρ2 m2 B2 H2 o2 f2 g2 => ⟨m2, ρ2, B2, o2, fr'.trans f2, g2⟩)
          fun v d m2 B2 H2 o2 f2 i2 g2 => ?_
        exact jr v d m2 B2 H2 o2 ((f1.trans fr').trans f2) i2 g2
    · obtain ⟨n, ρ', B', ok', fr', hI⟩ := w
      rw [is.length] at hI
      exact k σ' ρ' n B' H' ok' (f1.trans fr') (hd n ρ' hI)
theorem s_forL3w {i j e : Nat}
    (h : EvC K l tl ρ m fun m1 x => ∃ ds, x = .lst ds ∧
      ∃ (k : Nat) (W : List Nat) (R : Nat → List (Option Sl) → Prop)
        (xs0 : List (Option Sl)),
      xs0.length = W.length ∧ ρ = put ρ W xs0 ∧ R 0 xs0 ∧
      (∀ (c n : Nat) d xs, ds[c]? = some d → n ≤ m1 + k * c →
        xs.length = W.length → R c xs → ∃ x y z, d = .tup [x, y, z] ∧
        SvC K l tb ((((put ρ W xs).set i (some (.dat x))).set j
            (some (.dat y))).set e (some (.dat z))) n
          (fun n2 ρ2 => n2 ≤ n + k ∧ ∃ xs', xs'.length = W.length ∧
            ρ2 = put ρ W xs' ∧ R (c + 1) xs') Rt) ∧
      ∀ n xs, n ≤ m1 + k * ds.length → xs.length = W.length →
        R ds.length xs → Nx n (put ρ W xs)) :
    SvC K l (tFor (iList K tl) (g3 K i j e) tb) ρ m Nx Rt := by
  refine s_forL3 (e_imp h fun m1 x q => ?_)
  obtain ⟨ds, rfl, k, W, R, xs0, hl0, e0, h0, hb, hq⟩ := q
  refine ⟨_, rfl, fun i n ρ' => n ≤ m1 + k * i ∧
    ∃ xs, xs.length = W.length ∧ ρ' = put ρ W xs ∧ R i xs,
    ⟨Nat.le_add_right _ _, xs0, hl0, e0, h0⟩, ?_, ?_⟩
  · intro c n ρ' d hi hI
    obtain ⟨hn, xs, hx, rfl, hR⟩ := hI
    obtain ⟨x, y, z, rfl, hb'⟩ := hb c n d xs hi hn hx hR
    refine ⟨x, y, z, rfl, s_imp hb' (fun n2 ρ2 q => ⟨?_, q.2⟩)
      fun n d q => q⟩
    have := q.1
    rw [Nat.mul_add, Nat.mul_one]
    omega
  · intro n ρ' hI
    obtain ⟨hn, xs, hx, rfl, hR⟩ := hI
    exact hq n xs hn hx hR
end
end Wt

/-! How many unlike numbers a tuple has: len(set(t)). -/
namespace Wt
open PySem PySem.Spec PyProof.Rows L2
/-- c is how many unlike numbers there are among ns -/
def Dist (ns : List Int) (c : Nat) : Prop :=
  ∃ L : List Int, L.Nodup ∧ (∀ k, k ∈ L ↔ k ∈ ns) ∧ c = L.length
def tLenSetN (K : PySem.W.Frag) (ta : TE) : TE := fun σ H Q =>
  ta σ H fun x H1 => ∃ (l : Addr) (ns : List Int), x = V.ref l ∧
    SqT K H1 l (ns.map V.int) ∧ ns.length < 4000 ∧
    ∀ c, Dist ns c → Q (.int c) H1
section
variable {X : Cx}
theorem pe_lenSetN {a : Expr} {ta : TE} {p p2 q pos : Pos}
    (hc : X.calm = true) (h1 : Gl X "len") (h2 : X.mg "len" = none)
    (h3 : Gl X "set") (h4 : X.mg "set" = none) (ha : PE X a ta)
    (na : starEach [a] X.env =
      (false, eval a X.env) :: starEach [] X.env := by rfl) :
    PE X (.Call (.Name "len" p) [.Call (.Name "set" p2) [a] [] q] [] pos)
      (tLenSetN X.K ta) := by
  constructor
  intro pins s σ H Q I h
  refine Call_ (ld_blt I h1 h2
    PySem.boot_len ?_)
  refine callWith_builtin1
    (args_cons ?_ rfl) rfl rfl
  refine Call_ (ld_blt I h3 h4
    PyProof.Rows.boot_set ?_)
  have go := ha.run pins s σ H _ I h
  refine callWith_type1 (args_cons
    (thn go ?_) na) na rfl
  intro v s1 ⟨x, H1, I1, r1, z⟩
  refine args_nil ?_
  obtain ⟨l, ns, rfl, hq, hl, z⟩ := z
  cases r1
  obtain ⟨its, r, pl, _⟩ := I1.tuple hq
  refine call_set_tupI ns (I1.ok.hd hc) pl
    (by simpa using r.ints) (by unfold scanBound; omega) ?_
  intro h' tk c hS hcl hk
  refine args_nil ?_
  obtain ⟨o, es, ep, t, ho, hex, hd, _, nd, mm, hb, hf, hn, _⟩ := hS
  have I2 : Inv X pins σ H1 { s1 with heap := h', toks := tk } :=
    I1.kept hk
  have hD : Dist ns c := ⟨es.toList.map keyOf, nd, fun k => by
    rw [← mm k, decide_eq_true_eq], by
    rw [List.length_map, Array.length_toList, hn]⟩
  refine call_len_set ho hex hd hf
    (by rw [hn]; unfold scanBound at *; omega) ?_
  exact ⟨.int c, H1, I2.tok _, ⟨_, by rw [hn]⟩, z c hD⟩
end
section
variable {K : PySem.W.Frag} {l : Option Addr} {ρ : Ro} {m : Nat}
variable {Φ : Nat → D → Prop} {ta : TE}
theorem isAll_nums {B : Hp} : ∀ {vs : List V} {ns : List Int},
    IsAll K B vs (ns.map D.int) → vs = ns.map V.int
  | [], [], _ => rfl
  | _ :: _, _ :: _, .cons (.int _) r => by
    rw [List.map_cons, ← isAll_nums r]
theorem e_lenSetN (h : EvC K l ta ρ m fun m1 d => ∃ ns : List Int,
      d = .tup (ns.map D.int) ∧ ns.length < 4000 ∧
      ∀ c : Nat, Dist ns c → Φ m1 (.int c)) :
    EvC K l (tLenSetN K ta) ρ m Φ := by
  intro Z B H σ Q ok k
  refine h Z B H σ _ ok fun v d m1 B1 H1 o1 f1 i1 g1 => ?_
  obtain ⟨ns, rfl, hl, hq⟩ := g1
  cases i1 with
  | @tup a vs _ hT is _ =>
    have e := isAll_nums is
    subst e
    exact ⟨a, ns, rfl, sameT o1.sub hT, hl, fun c hc =>
      k _ _ m1 B1 H1 o1 f1 (.int _) (hq c hc)⟩
end
section
variable {K : PySem.W.Frag} {l : Option Addr} {ρ : Ro} {m : Nat}
variable {Nx : Nat → Ro → Prop} {Rt : Nat → D → Prop} {te : TE}
theorem ixN_nat {n c : Nat} (h : c < n) : ixN n (c : Int) = some c := by
  unfold ixN
  rw [if_pos (by omega)]
  first
    | (rw [if_pos (by omega)]; simp)
    | simp [h]
    | omega
/-- x[a], x[b] = .. of an own list -/
theorem s_set2Own {i j1 j2 k1 k2 : Nat} {ds : List D}
    (hi : ρ[i]? = some (some (.own ds)))
    (h1 : ρ[j1]? = some (some (.dat (.int (k1 : Int)))))
    (h2 : ρ[j2]? = some (some (.dat (.int (k2 : Int)))))
    (n2 : i ≠ j2) (l1 : k1 < ds.length) (l2 : k2 < ds.length)
    (h : EvC K l te ρ m fun m1 d => ∃ x y, d = .tup [x, y] ∧
      Nx m1 (ρ.set i (some (.own ((ds.set k1 x).set k2 y))))) :
    SvC K l (tAsg te (gTup K 2 (gCons (gSub (tVar i) (tVar j1) rSetL)
      (gCons (gSub (tVar i) (tVar j2) rSetL) gNil)))) ρ m Nx Rt := by
  intro Z B H σ W ok k _
  refine h Z B H σ _ ok fun v d m1 B1 H1 o1 f1 i1 g1 => ?_
  obtain ⟨x, y, rfl, q⟩ := g1
  cases i1 with
  | @tup a us _ hu r =>
    obtain ⟨u, w, rfl, z1, z2⟩ := isAll2 r
    refine ⟨a, [u, w], rfl, sameT o1.sub hu, rfl, u, [w], rfl, ?_⟩
    obtain ⟨v0, e0, b, xs, rfl, q1, q2, q3, q4, q5⟩ := o1.sl i _ hi
    obtain ⟨v1, e1, y1⟩ := o1.sl j1 _ h1
    cases y1
    refine ⟨_, e0, _, e1, b, xs, k1, k1, rfl, rfl, q1, ixN_nat (by rw [q5.length]; exact l1), ?_⟩
    obtain ⟨o2, f2⟩ := o1.grow hi e0 (q5.setAt z1 k1)
    have hil : i < ρ.length := (List.getElem?_eq_some_iff.mp hi).1
    have hi' : (ρ.set i (some (.own (ds.set k1 x))))[i]? = some (some (.own (ds.set k1 x))) := by
      rw [List.getElem?_set_self hil]
    have h2' : (ρ.set i (some (.own (ds.set k1 x))))[j2]? = some (some (.dat (.int (k2 : Int)))) := by
      rw [List.getElem?_set_ne n2]; exact h2
    refine ⟨w, [], rfl, ?_⟩
    obtain ⟨v0', e0', b', xs', hv, w1, w2, w3, w4, w5⟩ := o2.sl i _ hi'
    subst hv
    obtain ⟨v2, e2, y2⟩ := o2.sl j2 _ h2'
    cases y2
    refine ⟨_, e0', _, e2, b', xs', k2, k2, rfl, rfl, w1, ixN_nat (by rw [w5.length, List.length_set]; exact l2), ?_⟩
    obtain ⟨o3, f3⟩ := o2.grow hi' e0' (w5.setAt (z2.mono f2.sub) k2)
    refine ⟨rfl, ?_⟩
    rw [List.set_set] at o3
    exact k _ _ m1 B1 _ o3 ((f1.trans f2).trans f3) q
/-- x = list(t) that will be written -/
theorem s_ownQ {i : Nat} (h : EvC K l te ρ m fun m1 x => ∃ es, x.items = some es ∧
      Nx m1 (ρ.set i (some (.own es)))) :
    SvC K l (tAsg (tCB (rListQ K) (tCons te tNil)) (gName i)) ρ m Nx Rt := by
  intro Z B H σ W ok k _
  refine h Z B H σ _ ok fun v d m1 B1 H1 o1 f1 i1 g1 => ?_
  obtain ⟨es, he, q⟩ := g1
  obtain ⟨a, us, rfl, hs, r⟩ : ∃ a us, v = .ref a ∧ (SqL K H1 a us ∨ SqT K H1 a us) ∧ IsAll K B1 us es := by
    cases i1 with
    | lst h r => cases he; exact ⟨_, _, rfl, .inl (SqL.of (o1.sub _ _ h)), r⟩
    | tup h r _ => cases he; exact ⟨_, _, rfl, .inr (sameT o1.sub h), r⟩
    | _ => cases he
  refine ⟨a, us, rfl, hs, fun p hp => ?_⟩
  have hz : ¬ Z p := fun z => (o1.zs p z).1 hp
  exact k _ _ m1 B1 _ ((o1.aside (o := .lst us) hp).setOwn hz upd_same r) (f1.trans
    ⟨Same.refl B1, fun z hz' => upd_ne fun e => hz (e ▸ hz')⟩) q
/-- a new list told by a def, as data -/
theorem e_ofF {Ψ : Nat → List D → Prop} {Φ : Nat → D → Prop} (h : EvF K l te ρ m Ψ)
    (q : ∀ m' es, Ψ m' es → Φ m' (.lst es)) : EvC K l te ρ m Φ := by
  intro Z B H σ Q ok k
  refine h Z B H σ Q ok fun p xs es m' B2 H2 o2 f2 hz hp is hq => ?_
  obtain ⟨_, hb, hl⟩ := o2.zs p (.inr rfl)
  have sm : Same B2 (upd B2 p (.lst xs)) := same_new hb
  have own_ne : ∀ (i : Nat) ds b, ρ[i]? = some (some (.own ds)) → σ[i]? = some (some (.ref b)) → b ≠ p := by
    intro i ds b e1 e2 z
    obtain ⟨v, e3, b', xs', hv, w1, w2, w3, _⟩ := o2.sl i _ e1
    subst hv
    rw [e2] at e3
    cases e3
    exact w3 (.inr z)
  have o3 : Ok K l Z m' (upd B2 p (.lst xs)) H2 σ ρ := by
    refine ⟨⟨fun b x e => ?_, fun b e => ⟨(o2.hand b e).1, ?_⟩, fun z w => ?_⟩, o2.len, fun i s e => ?_, o2.dis⟩
    · by_cases n : b = p
      · subst n; rw [upd_same] at e; cases e; exact hp
      · rw [upd_ne n] at e; exact o2.sub b x e
    · rw [upd_ne (fun (z : b = p) => hl (z ▸ e))]
      exact (o2.hand b e).2
    · obtain ⟨w1, w2, w3⟩ := o2.zs z (.inl w)
      refine ⟨w1, ?_, w3⟩
      rw [upd_ne (fun (e : z = p) => hz (e ▸ w))]
      exact w2
    · obtain ⟨v, e2, q⟩ := o2.sl i s e
      refine ⟨v, e2, ?_⟩
      cases s with
      | dat d => exact Is.mono sm q
      | hand => exact q
      | own fs =>
        obtain ⟨b, zs, rfl, p1, p2, p3, p4, p5⟩ := q
        refine ⟨b, zs, rfl, p1, ?_, fun z => p3 (.inl z), p4, p5.mono sm⟩
        rw [upd_ne (own_ne i fs b e e2)]
        exact p2
  exact k _ _ m' _ H2 o3 (f2.trans ⟨sm, fun _ _ => rfl⟩) (.lst upd_same (is.mono sm)) (q m' es hq)
end
theorem dist_full {ns : List Int} {c : Nat} (h : Dist ns c) :
    c = ns.length ↔ ns.Nodup := by
  obtain ⟨L, nd, hm, rfl⟩ := h
  constructor
  · intro e
    have key : ∀ (A M : List Int), A.Nodup → (∀ x ∈ A, x ∈ M) →
        A.length = M.length → M.Nodup := by
      intro A
      induction A with
      | nil =>
        intro M _ _ e
        have : M = [] := List.eq_nil_of_length_eq_zero e.symm
        rw [this]; exact List.nodup_nil
      | cons a A ih =>
        intro M nA hs e
        have ha : a ∈ M := hs a List.mem_cons_self
        rw [List.nodup_cons] at nA
        have hp := List.perm_cons_erase ha
        have h2 := ih (M.erase a) nA.2 (fun x hx => by
          have := hs x (List.mem_cons_of_mem _ hx)
          exact (List.mem_erase_of_ne fun (z : x = a) => nA.1 (z ▸ hx)).mpr this)
          (by rw [List.length_erase_of_mem ha, ← e, List.length_cons]; rfl)
        rw [hp.nodup_iff, List.nodup_cons]
        refine ⟨fun z => ?_, h2⟩
        have key2 : ∀ (A M : List Int), A.Nodup → (∀ x ∈ A, x ∈ M) → A.length ≤ M.length := by
          intro A
          induction A with
          | nil => intro M _ _; exact Nat.zero_le _
          | cons b A ih2 =>
            intro M nb hs2
            rw [List.nodup_cons] at nb
            have hb : b ∈ M := hs2 b List.mem_cons_self
            have := ih2 (M.erase b) nb.2 fun x hx =>
              (List.mem_erase_of_ne fun (z : x = b) => nb.1 (z ▸ hx)).mpr (hs2 x (List.mem_cons_of_mem _ hx))
            rw [List.length_erase_of_mem hb] at this
            have := List.length_pos_of_mem hb
            rw [List.length_cons]
            omega
        have h3 := key2 (a :: A) (M.erase a) (List.nodup_cons.mpr nA) fun x hx => by
          rcases List.mem_cons.mp hx with rfl | hx
          · exact z
          · exact (List.mem_erase_of_ne fun (z : x = a) => nA.1 (z ▸ hx)).mpr (hs x (List.mem_cons_of_mem _ hx))
        rw [List.length_erase_of_mem ha, ← e, List.length_cons] at h3
        omega
    exact key L ns nd (fun x hx => (hm x).mp hx) e
  · intro hn
    have le : ∀ (A M : List Int), A.Nodup → (∀ x ∈ A, x ∈ M) → A.length ≤ M.length := by
      intro A
      induction A with
      | nil => intro M _ _; exact Nat.zero_le _
      | cons b A ih2 =>
        intro M nb hs2
        rw [List.nodup_cons] at nb
        have hb : b ∈ M := hs2 b List.mem_cons_self
        have := ih2 (M.erase b) nb.2 fun x hx =>
          (List.mem_erase_of_ne fun (z : x = b) => nb.1 (z ▸ hx)).mpr (hs2 x (List.mem_cons_of_mem _ hx))
        rw [List.length_erase_of_mem hb] at this
        have := List.length_pos_of_mem hb
        rw [List.length_cons]
        omega
    exact Nat.le_antisymm (le L ns nd fun x hx => (hm x).mp hx) (le ns L hn fun x hx => (hm x).mpr hx)
end Wt

/-! sorted(xs) of a list of any data that rise. -/
namespace Wt
open PySem PySem.Spec PyProof.Rows L2
/-- the order by which data rise -/
abbrev leD : D → D → Bool := PySem.W.dataLe false D.py
def rSortD (K : PySem.W.Frag) : List V → Hp → VK → Prop := fun vs H Q =>
  ∃ (a : Addr) (xs : List V) (B : Hp) (ds : List D), vs = [V.ref a] ∧
    SqL K H a xs ∧ Same B H ∧ IsAll K B xs ds ∧ D.plains ds = true ∧
    PySem.W.AllAlike (ds.map D.py) ∧ PySem.W.Sortable (ds.map D.py) ∧
    ds.length ≤ 100000 ∧ (∀ d ∈ ds, d.py.depth ≤ 60) ∧
    ∀ (ys : List V) (p : Addr), IsAll K B ys (ds.mergeSort leD) →
      H p = none → Q (.ref p) (upd H p (.lst ys))
section
variable {X : Cx}
theorem each_of {B : Hp} {pins : List (Addr × Obj)} {σ : L2.St} {H : Hp} {s : Shared}
    (I : Inv X pins σ H s) (sb : Same B H) : ∀ {xs : List V} {ds : List D} {us : List Value},
    IsAll X.K B xs ds → D.plains ds = true → Vals xs us →
    PySem.W.EachIs (fun u (b : V × D) => (RelV b.1 u ∧ Is X.K B b.1 b.2) ∧
      ∃ as, Reads s.heap u b.2.py as) us (xs.zip ds)
  | [], [], _, .nil, _, .nil => .nil
  | x :: xs, d :: ds, _, .cons h t, hp, .cons r rs => by
    rw [D.plains, Bool.and_eq_true] at hp
    obtain ⟨as, hr, _⟩ := Is.reads I sb h hp.1 r
    exact .cons ⟨⟨r, h⟩, as, hr⟩ (each_of I sb t hp.2 rs)
theorem each_back {K : PySem.W.Frag} {B : Hp} : ∀ {us : List Value} {bs : List (V × D)},
    PySem.W.EachIs (fun u (b : V × D) => RelV b.1 u ∧ Is K B b.1 b.2) us bs →
    Vals (bs.map (·.1)) us ∧ IsAll K B (bs.map (·.1)) (bs.map (·.2))
  | _, _, .nil => ⟨.nil, .nil⟩
  | _, _, .cons h t => ⟨.cons h.1 (each_back t).1, .cons h.2 (each_back t).2⟩
theorem zip_snd : ∀ {xs : List V} {ds : List D}, xs.length = ds.length →
    (xs.zip ds).map (·.2) = ds
  | [], [], _ => rfl
  | x :: xs, d :: ds, h => by
    rw [List.zip_cons_cons, List.map_cons, zip_snd (by simpa using h)]
theorem cr_sortD (hu : X.A.units + 64 < cLine) :
    CallR X (.builtin "sorted") (rSortD X.K) := by
  intro pins s σ H vs us Q I r h
  obtain ⟨a, xs, B, ds, rfl, hs, sb, is, hp, hal, hk, hl, hd, q⟩ := h
  obtain ⟨its, rv, pl, _⟩ := I.list hs
  rw [Vals.ref1 r]
  have e := each_of I sb is hp rv
  have hz := zip_snd (xs := xs) (ds := ds) is.length
  have hm : (xs.zip ds).map (fun b => b.2.py) = ds.map D.py := by
    conv => rhs; rw [← hz]
    rw [List.map_map]; rfl
  have hbl : (xs.zip ds).length = ds.length := by
    rw [List.length_zip, is.length, Nat.min_self]
  have hb2 : ∀ b ∈ xs.zip ds, b.2 ∈ ds := fun b hb => (List.of_mem_zip (show (b.1, b.2) ∈ xs.zip ds from hb)).2
  refine PySem.W.sorted_data (bs := xs.zip ds) (enc := fun b => b.2.py)
    pl.isList (e.mono fun _ _ z => z.1) (e.mono fun _ _ z => z.2)
    (by rw [hm]; exact hal) (by rw [hm]; exact hk)
    (by rw [hbl]; exact Nat.le_trans hl (by decide))
    (fun b hb => by have := hd b.2 (hb2 b hb); omega) fun out ho eo => ?_
  obtain ⟨ep, he'⟩ := PyProof.Rows.sortedAll_at s.heap its out.toArray
  obtain ⟨v1, v2⟩ := each_back eo
  have em : ((xs.zip ds).mergeSort (PySem.W.dataLe false fun b => b.2.py)).map (·.2) = ds.mergeSort leD := by
    conv => rhs; rw [← hz]
    exact List.map_mergeSort fun _ _ _ _ => rfl
  rw [em] at v2
  have hlen : (((xs.zip ds).mergeSort (PySem.W.dataLe false fun b => b.2.py)).map (·.1)).length ≤ sizeLine := by
    rw [List.length_map, List.length_mergeSort, hbl]
    exact Nat.le_trans hl (by decide)
  exact ⟨.ref _, upd H (s.heap.objs.size + 1) (.lst _),
    I.laid (t' := s.toks) (fun _ _ => PyProof.Rows.sortedAll_old)
      (Nat.le_succ _) ⟨hlen, out, ep, v1, he'⟩, rfl,
    q _ _ v2 (I.hok.fresh (Nat.le_succ _))⟩
end
section
variable {K : PySem.W.Frag} {l : Option Addr} {ρ : Ro} {m : Nat}
variable {Φ : Nat → D → Prop}
theorem v_sortD {ds : List D} (hp : D.plains ds = true)
    (hal : PySem.W.AllAlike (ds.map D.py)) (hk : PySem.W.Sortable (ds.map D.py))
    (hl : ds.length ≤ 100000) (hd : ∀ d ∈ ds, d.py.depth ≤ 60)
    (q : Φ m (.lst (ds.mergeSort leD))) :
    VvC K l ρ (rSortD K) [.lst ds] m Φ := by
  intro Z B H σ vs Q ok is k
  obtain ⟨v, rfl, h2⟩ := isAll1 is
  cases h2 with
  | @lst a us _ hu r =>
    refine ⟨a, us, B, ds, rfl, SqL.of (ok.sub _ _ hu), ok.sub, r, hp, hal, hk, hl, hd, fun ys p hy hn => ?_⟩
    obtain ⟨o2, f2⟩ := ok.new (o := .lst ys) hn
    exact k _ _ m _ _ o2 f2 (.lst upd_same (hy.mono f2.sub)) q
end
end Wt

/-! x[a:c] = [..] of an own list; x[e] of one. -/
namespace Wt
open PySem PySem.Spec PyProof.Rows L2
def gSlc (to t1 t2 : TE) : TG := fun v σ H Q =>
  to σ H fun o H1 => t1 σ H1 fun x H2 => t2 σ H2 fun y H3 =>
    ∃ (l b : Addr) (xs ys : List V) (a c : Int), o = .ref l ∧ v = .ref b ∧
      x = .int a ∧ y = .int c ∧ H3 l = some (.lst xs) ∧ H3 b = some (.lst ys) ∧
      l ≠ b ∧ 0 ≤ a ∧ a ≤ c ∧ c ≤ xs.length ∧ xs.length + ys.length ≤ sizeLine ∧
      Q σ (upd H3 l (.lst (xs.take a.toNat ++ ys ++ xs.drop c.toNat)))
section
variable {X : Cx}
theorem pg_slc {o e1 e2 : Expr} {to t1 t2 : TE} {p2 pos : Pos} (ho : PE X o to)
    (h1 : PE X e1 t1) (h2 : PE X e2 t2)
    (ha : ∀ v, assign (.Subscript o (.Slice (some e1) (some e2) none p2) pos) X.env v = (do
      let ov ← holding [v] (eval o X.env)
      let iv ← holding [v, ov] (eval (.Slice (some e1) (some e2) none p2) X.env)
      standAt pos
      holding [v, ov, iv] (setItem ov iv v)
      release [iv, v, ov] []) := by intro _; rfl) :
    PG X (.Subscript o (.Slice (some e1) (some e2) none p2) pos) (gSlc to t1 t2) := by
  constructor
  intro pins s σ H v u Q I r h
  rw [ha]
  have g1 := ho.run pins s σ H _ I h
  refine wpAny_bind (wpAny_holding (thn g1 ?_))
  intro ov s1 ⟨x, H1, I1, r1, q1⟩
  have g2 := h1.run pins s1 σ H1 _ I1 q1
  refine wpAny_bind (wpAny_holding (wpAny_Slice ?_))
  rw [evalPart_some]
  refine thn g2 ?_
  intro vl s2 ⟨y, H2, I2, r2, q2⟩
  have g3 := h2.run pins s2 σ H2 _ I2 q2
  rw [evalPart_some]
  refine thn g3 ?_
  intro vu s3 ⟨z, H3, I3, r3, q3⟩
  rw [evalPart_none]
  refine wpAny_pure ?_
  obtain ⟨l, b, xs, ys, a, c, rfl, rfl, rfl, rfl, hl, hb, hne, h0, hac, hcl, hz, q⟩ := q3
  cases r1
  cases r
  have I4 := I3.kept (t' := s3.toks) (h' := s3.heap.push
    { cls := .type "slice", data := .fields #[vl, vu, .none] })
    fun b ob q => Heap.get?_push_of_some _ q
  refine wpAny_bind (wpAny_standAt (wpAny_bind (wpAny_holding ?_)))
  refine set_slice I4 hl hb hne (Heap.IsSliceOf.new ..) r2 r3 h0 hac hcl hz ?_
  intro s5 I5
  exact wpAny_release ⟨σ, _, I5, q⟩
end
section
variable {K : PySem.W.Frag} {l : Option Addr} {ρ : Ro} {m : Nat}
variable {Nx : Nat → Ro → Prop} {Rt : Nat → D → Prop} {te t1 t2 : TE} {tA : TA}
variable {Φ : Nat → D → Prop}
/-- x[e] of an own list -/
theorem e_ixOwn {i : Nat} {ds : List D} (hi : ρ[i]? = some (some (.own ds)))
    (h : EvC K l te ρ m fun m1 x => ∃ k : Nat, x = .int (k : Int) ∧ ∃ d, ds[k]? = some d ∧ Φ m1 d) :
    EvC K l (tOp (rIxL K) (tVar i) te) ρ m Φ := by
  intro Z B H σ Q ok k
  obtain ⟨v, e1, a, xs, rfl, q1, q2, q3, q4, q5⟩ := ok.sl i _ hi
  refine ⟨_, e1, ?_⟩
  refine h Z B H σ _ ok fun v2 d2 m2 B2 H2 o2 f2 i2 g2 => ?_
  obtain ⟨c, rfl, d, hd, q⟩ := g2
  cases i2
  obtain ⟨v', e1', a', xs', hv, w1, w2, w3, w4, w5⟩ := o2.sl i _ hi
  subst hv
  rw [e1] at e1'
  cases e1'
  obtain ⟨x, ex, z⟩ := w5.got hd
  exact ⟨a, xs', (c : Int), x, rfl, rfl, SqL.of w1, atI_get (by omega) (by rw [Int.toNat_natCast]; exact ex),
    k _ _ m2 B2 H2 o2 f2 z q⟩
theorem IsAll.takes {B : Hp} : ∀ (n : Nat) {vs : List V} {ds : List D}, IsAll K B vs ds → IsAll K B (vs.take n) (ds.take n)
  | 0, _, _, _ => by rw [List.take_zero, List.take_zero]; exact .nil
  | _ + 1, [], [], _ => .nil
  | n + 1, _ :: _, _ :: _, .cons h t => .cons h (IsAll.takes n t)
theorem IsAll.drops {B : Hp} : ∀ (n : Nat) {vs : List V} {ds : List D}, IsAll K B vs ds → IsAll K B (vs.drop n) (ds.drop n)
  | 0, _, _, h => by rw [List.drop_zero, List.drop_zero]; exact h
  | _ + 1, [], [], _ => .nil
  | n + 1, _ :: _, _ :: _, .cons h t => IsAll.drops n t
/-- x[a:c] = [..] of an own list -/
theorem s_setSlc {i : Nat} {ds : List D} (hi : ρ[i]? = some (some (.own ds)))
    (h : AvC K l tA ρ m fun m1 es => es.length ≤ 100000 ∧ EvC K l t1 ρ m1 fun m2 x => ∃ a : Nat, x = .int (a : Int) ∧
      EvC K l t2 ρ m2 fun m3 y => ∃ c : Nat, y = .int (c : Int) ∧ a ≤ c ∧ c ≤ ds.length ∧
        ds.length + es.length ≤ 100000 ∧ Nx m3 (ρ.set i (some (.own (ds.take a ++ es ++ ds.drop c))))) :
    SvC K l (tAsg (tLst tA) (gSlc (tVar i) t1 t2)) ρ m Nx Rt := by
  intro Z B H σ W ok k _
  refine h Z B H σ _ ok fun vs es m1 B1 H1 o1 f1 i1 g1 => ?_
  refine ⟨by rw [i1.length]; exact Nat.le_trans g1.1 (by decide), fun p hp => ?_⟩
  obtain ⟨o2, f2⟩ := o1.new (o := .lst vs) hp
  obtain ⟨v, e1, b, xs, rfl, q1, q2, q3, q4, q5⟩ := o2.sl i _ hi
  refine ⟨_, e1, ?_⟩
  refine g1.2 Z _ _ σ _ o2 fun v3 d3 m3 B3 H3 o3 f3 i3 g3 => ?_
  obtain ⟨a, rfl, g3⟩ := g3
  cases i3
  refine g3 Z _ _ σ _ o3 fun v4 d4 m4 B4 H4 o4 f4 i4 g4 => ?_
  obtain ⟨c, rfl, hac, hcl, hz, q⟩ := g4
  cases i4
  obtain ⟨v', e1', b', xs', hv, w1, w2, w3, w4, w5⟩ := o4.sl i _ hi
  subst hv
  rw [e1] at e1'
  cases e1'
  have hpB : upd B1 p (.lst vs) p = some (.lst vs) := upd_same
  have hp4 : B4 p = some (.lst vs) := f4.sub _ _ (f3.sub _ _ hpB)
  have hbp : b ≠ p := fun z => by rw [z, hp4] at w2; cases w2
  refine ⟨b, p, xs', vs, a, c, rfl, rfl, rfl, rfl, w1, o4.sub _ _ hp4, hbp, by omega, by omega, by rw [w5.length]; omega,
    by rw [w5.length, i1.length]; exact Nat.le_trans hz (by decide), ?_⟩
  rw [Int.toNat_natCast, Int.toNat_natCast]
  have iv : IsAll K B4 vs es := i1.mono ((f2.trans (f3.trans f4)).sub)
  obtain ⟨o5, f5⟩ := o4.grow hi e1 ((IsAll.append (IsAll.takes a w5) iv).append (IsAll.drops c w5))
  exact k _ _ m4 B4 _ o5 (f1.trans (f2.trans (f3.trans (f4.trans f5)))) q
/-- a, b = x, [] where b will grow, the names read elsewhere too -/
theorem s_unp2OwnR {i j : Nat} (hij : i ≠ j)
    (h : EvC K l te ρ m fun m1 y => Nx m1 ((ρ.set i (some (.dat y))).set j (some (.own [])))) :
    SvC K l (tAsg (tTupC (tCons te (tCons (tLst tNil) tNil))) (g2 K i j)) ρ m Nx Rt := by
  intro Z B H σ W ok kk _
  refine h Z B H σ _ ok fun v d m1 B1 H1 o1 f1 i1 g1 => ?_
  refine ⟨Nat.zero_le _, fun p hp => ?_⟩
  have hz : ¬ Z p := fun z => (o1.zs p z).1 hp
  have oA := o1.aside (o := .lst []) hp
  refine ⟨by show 2 ≤ sizeLine; decide, fun T ob hT _ _ => ?_⟩
  obtain ⟨oJ, fJ⟩ := oA.junk (o := .frz ob (.tup [v, .ref p])) hT
  have npT : p ≠ T := fun e => by rw [← e, upd_same] at hT; cases hT
  have hp2 : upd (upd H1 p (.lst [])) T (.frz ob (.tup [v, .ref p])) p = some (.lst []) := by
    rw [upd_ne npT, upd_same]
  have o2 := (oJ.set (i := i) i1).setOwn (i := j) hz hp2 .nil
  refine ⟨T, _, rfl, sqF upd_same, rfl, v, [.ref p], rfl, .ref p, [],
    rfl, rfl, kk _ _ m1 B1 _ o2 ?_ g1⟩
  exact f1.trans ⟨Same.refl B1, fun z hz' => (fJ.kept z (.inl hz')).trans (upd_ne fun e => hz (e ▸ hz'))⟩
theorem v_listL {ds : List D} (q : Φ m (.lst ds)) :
    VvC K l ρ (rListQ K) [.lst ds] m Φ := by
  intro Z B H σ vs Q ok is k
  obtain ⟨v, rfl, h⟩ := isAll1 is
  cases h with
  | @lst a us _ hu r =>
    refine ⟨a, us, rfl, .inl (SqL.of (ok.sub _ _ hu)), fun p hp => ?_⟩
    obtain ⟨o2, f2⟩ := ok.new (o := .lst us) hp
    exact k _ _ m _ _ o2 f2 (.lst upd_same (r.mono f2.sub)) q
/-- what a slot holds may be left aside -/
theorem Ok.forget {Z : Addr → Prop} {B H : Hp} {σ : L2.St} {j : Nat} (h : Ok K l Z m B H σ ρ) :
    Ok K l Z m B H σ (ρ.set j none) := by
  have old : ∀ (i : Nat) x, (ρ.set j none)[i]? = some (some x) → ρ[i]? = some (some x) := fun i x q => by
    by_cases e : j = i
    · subst e
      by_cases hl : j < ρ.length
      · rw [List.getElem?_set_self hl] at q; cases q
      · rw [List.getElem?_eq_none (by rw [List.length_set]; omega)] at q; cases q
    · rw [List.getElem?_set_ne e] at q; exact q
  exact ⟨h.toBs, by rw [List.length_set]; exact h.len, fun i s q => h.sl i s (old i s q),
    fun i k ds es a n q1 q2 => h.dis i k ds es a n (old i _ q1) (old k _ q2)⟩
theorem s_forget {ts : TS} (j : Nat) (h : SvC K l ts (ρ.set j none) m Nx Rt) : SvC K l ts ρ m Nx Rt :=
  fun Z B H σ W ok k jr => h Z B H σ W ok.forget k jr
end
theorem spP_no {K : PySem.W.Frag} {pre : List D → Prop} {F : List D → D} (hno : ∀ ds, ¬ pre ds)
    {vs : List V} {H : Hp} {Q : VK} {E : XK} (h : SpP K pre F vs H Q E) : False := by
  obtain ⟨B, ds, _, _, hp, _⟩ := h
  exact hno ds hp
end Wt

/-! sorted(t) of a tuple of any data that rise. -/
namespace Wt
open PySem PySem.Spec PyProof.Rows L2
section
variable {prog : Program} {w : World} {A : Around}
variable {E : Value → Shared → Prop} {s : Shared}
theorem sorted_tupD {l : Addr} {vs : List Value} {β : Type} {bs : List β} {enc : β → PyData}
    {R : Value → β → Prop} {Q : Value → Shared → Prop} (hl : s.heap.IsTuple l vs.toArray)
    (e : PySem.W.EachIs R vs bs) (er : PySem.W.EachIs (fun v b => ∃ as, Reads s.heap v (enc b) as) vs bs)
    (hal : PySem.W.AllAlike (bs.map enc)) (hk : PySem.W.Sortable (bs.map enc)) (hL : bs.length ≤ sizeLine)
    (hu : ∀ b, b ∈ bs → A.units + 60 + (enc b).depth < cLine)
    (h : ∀ out : List Value, out.length = bs.length →
      PySem.W.EachIs R out (bs.mergeSort (PySem.W.dataLe false enc)) →
      Q (.ref (s.heap.objs.size + 1)) { s with heap := sortedAll s.heap vs out.toArray }) :
    wpAny (model prog w) A (call (.builtin "sorted") [.ref l]) Q E s := by
  refine Calls.call_function_entry kind_sorted plain_sorted entry_sorted
    (args_sorted1 _) ?_
  unfold Builtin.«sorted»
  refine wpAny_bind (m := checkCount "sorted" 1 1 _) (wpAny_pure ?_)
  have hvl : vs.length ≤ sizeLine := by rw [e.length]; exact hL
  refine wpAny_bind (collect_tup (hsz := hvl) hl ?_)
  refine wpAny_bind (wpAny_newList ?_)
  have hsz : ((s.heap.push (seqObj "list" #[] 0)).update s.heap.objs.size
      (Obj.mapSeq (· ++ vs.toArray))).objs.size = s.heap.objs.size + 1 := by
    rw [Heap.size_update, size_push']
  have hoL : (((s.heap.push (seqObj "list" #[] 0)).update s.heap.objs.size
      (Obj.mapSeq (· ++ vs.toArray))).push (seqObj "list" vs.toArray 0)).get?
      (s.heap.objs.size + 1) = some (seqObj "list" vs.toArray 0) := by
    rw [← hsz]; exact Heap.get?_push_size _ rfl
  show wpAny _ _ _ _ _ { s with heap := (((s.heap.push
    (seqObj "list" #[] 0)).update s.heap.objs.size
      (Obj.mapSeq (· ++ vs.toArray))).push (seqObj "list" vs.toArray 0)) }
  rw [hsz]
  have old : ∀ b o, s.heap.get? b = some o → (((s.heap.push (seqObj "list" #[] 0)).update s.heap.objs.size
      (Obj.mapSeq (· ++ vs.toArray))).push (seqObj "list" vs.toArray 0)).get? b = some o := fun b o q => by
    have hb := Heap.lt_size q
    refine Heap.get?_push_of_some _ ?_
    rw [(Heap.SameBut.update (s.heap.push (seqObj "list" #[] 0)) s.heap.objs.size (Obj.mapSeq (· ++ vs.toArray))).2 b (Nat.ne_of_lt hb)]
    exact Heap.get?_push_of_some _ q
  refine wpAny_bind (wpAny_holding (PySem.W.list_sort_data (n := 0) (bs := bs) (enc := enc) (R := R)
    (s := { s with heap := ((s.heap.push (seqObj "list" #[] 0)).update s.heap.objs.size
      (Obj.mapSeq (· ++ vs.toArray))).push (seqObj "list" vs.toArray 0) }) hoL e
    (er.mono fun v b ⟨as, r⟩ => ⟨as, Reads.keeps old r, fun z => by
      obtain ⟨o, ho⟩ := PyProof.On.reads_mem_get r _ z
      exact absurd (Heap.lt_size ho) (Nat.not_lt_of_ge (Nat.le_succ _))⟩) hal hk hL (fun b hb => ?_) fun out ho eo => ?_))
  · have := hu b hb
    simp
    omega
  · exact wpAny_pure ⟨_, rfl, h out ho eo⟩
end
def rSortTD (K : PySem.W.Frag) : List V → Hp → VK → Prop := fun vs H Q =>
  ∃ (a : Addr) (xs : List V) (B : Hp) (ds : List D), vs = [V.ref a] ∧
    SqT K H a xs ∧ Same B H ∧ IsAll K B xs ds ∧ D.plains ds = true ∧
    PySem.W.AllAlike (ds.map D.py) ∧ PySem.W.Sortable (ds.map D.py) ∧
    ds.length ≤ 100000 ∧ (∀ d ∈ ds, d.py.depth ≤ 3) ∧
    ∀ (ys : List V) (p : Addr), IsAll K B ys (ds.mergeSort leD) →
      H p = none → Q (.ref p) (upd H p (.lst ys))
section
variable {X : Cx}
theorem cr_sortTD (hu : X.A.units + 64 < cLine) :
    CallR X (.builtin "sorted") (rSortTD X.K) := by
  intro pins s σ H vs us Q I r h
  obtain ⟨a, xs, B, ds, rfl, hs, sb, is, hp, hal, hk, hl, hd, q⟩ := h
  obtain ⟨its, rv, pl, _⟩ := I.tuple hs
  rw [Vals.ref1 r]
  have e := each_of I sb is hp rv
  have hz := zip_snd (xs := xs) (ds := ds) is.length
  have hm : (xs.zip ds).map (fun b => b.2.py) = ds.map D.py := by
    conv => rhs; rw [← hz]
    rw [List.map_map]; rfl
  have hbl : (xs.zip ds).length = ds.length := by
    rw [List.length_zip, is.length, Nat.min_self]
  have hb2 : ∀ b ∈ xs.zip ds, b.2 ∈ ds := fun b hb => (List.of_mem_zip (show (b.1, b.2) ∈ xs.zip ds from hb)).2
  refine sorted_tupD (bs := xs.zip ds) (enc := fun b => b.2.py)
    (show s.heap.IsTuple a its.toArray from pl) (e.mono fun _ _ z => z.1) (e.mono fun _ _ z => z.2)
    (by rw [hm]; exact hal) (by rw [hm]; exact hk)
    (by rw [hbl]; exact Nat.le_trans hl (by decide))
    (fun b hb => by have := hd b.2 (hb2 b hb); omega) fun out ho eo => ?_
  obtain ⟨ep, he'⟩ := PyProof.Rows.sortedAll_at s.heap its out.toArray
  obtain ⟨v1, v2⟩ := each_back eo
  have em : ((xs.zip ds).mergeSort (PySem.W.dataLe false fun b => b.2.py)).map (·.2) = ds.mergeSort leD := by
    conv => rhs; rw [← hz]
    exact List.map_mergeSort fun _ _ _ _ => rfl
  rw [em] at v2
  have hlen : (((xs.zip ds).mergeSort (PySem.W.dataLe false fun b => b.2.py)).map (·.1)).length ≤ sizeLine := by
    rw [List.length_map, List.length_mergeSort, hbl]
    exact Nat.le_trans hl (by decide)
  exact ⟨.ref _, upd H (s.heap.objs.size + 1) (.lst _),
    I.laid (t' := s.toks) (fun _ _ => PyProof.Rows.sortedAll_old)
      (Nat.le_succ _) ⟨hlen, out, ep, v1, he'⟩, rfl,
    q _ _ v2 (I.hok.fresh (Nat.le_succ _))⟩
end
section
variable {K : PySem.W.Frag} {l : Option Addr} {ρ : Ro} {m : Nat}
variable {Φ : Nat → D → Prop}
theorem v_sortTD {ds : List D} (hp : D.plains ds = true)
    (hal : PySem.W.AllAlike (ds.map D.py)) (hk : PySem.W.Sortable (ds.map D.py))
    (hl : ds.length ≤ 100000) (hd : ∀ d ∈ ds, d.py.depth ≤ 3)
    (q : Φ m (.lst (ds.mergeSort leD))) :
    VvC K l ρ (rSortTD K) [.tup ds] m Φ := by
  intro Z B H σ vs Q ok is k
  obtain ⟨v, rfl, h2⟩ := isAll1 is
  cases h2 with
  | @tup a us _ hu r _ =>
    refine ⟨a, us, B, ds, rfl, sameT ok.sub hu, ok.sub, r, hp, hal, hk, hl, hd, fun ys p hy hn => ?_⟩
    obtain ⟨o2, f2⟩ := ok.new (o := .lst ys) hn
    exact k _ _ m _ _ o2 f2 (.lst upd_same (hy.mono f2.sub)) q
end
end Wt
/-! how many unlike numbers a list has -/
namespace Wt
open PySem PySem.Spec PyProof.Rows L2
theorem firstMet_nd (f : Nat → Int) : ∀ i, (firstMet f i).Nodup
  | 0 => List.nodup_nil
  | i + 1 => by
    rw [firstMet_succ]
    unfold step_dedup
    have ih := firstMet_nd f i
    by_cases h : (firstMet f i).any (· == f i) = true
    · rw [if_pos h]; exact ih
    · rw [if_neg h, List.nodup_append]
      refine ⟨ih, List.nodup_cons.mpr ⟨List.not_mem_nil, List.nodup_nil⟩, fun a ha b hb e => h ?_⟩
      rw [List.mem_singleton] at hb
      rw [List.any_eq_true]
      exact ⟨a, ha, by rw [e, hb]; exact beq_self_eq_true _⟩
theorem firstMet_mem (ns : List Int) (k : Int) : k ∈ firstMet (fun i => ns.getD i 0) ns.length ↔ k ∈ ns := by
  have e := firstMet_any (fun i => ns.getD i 0) ns.length k
  have e2 : (List.range ns.length).map (fun i => ns.getD i 0) = ns := by
    apply List.ext_getElem
    · simp
    · intro i h1 h2
      rw [List.getElem_map, List.getElem_range, List.getD_eq_getElem?_getD, List.getElem?_eq_getElem h2]
      rfl
  rw [e2] at e
  have a : ∀ l : List Int, l.any (· == k) = true ↔ k ∈ l := fun l => by
    rw [List.any_eq_true]
    constructor
    · rintro ⟨x, hx, q⟩
      rw [← beq_iff_eq.mp q]; exact hx
    · intro hk
      exact ⟨k, hk, beq_self_eq_true _⟩
  rw [← a, ← a, e]
def tLenSetL (K : PySem.W.Frag) (ta : TE) : TE := fun σ H Q =>
  ta σ H fun x H1 => ∃ (l : Addr) (ns : List Int), x = V.ref l ∧
    SqL K H1 l (ns.map V.int) ∧ ns.length < 4000 ∧
    ∀ c, Dist ns c → Q (.int c) H1
section
variable {X : Cx}
theorem pe_lenSetL {a : Expr} {ta : TE} {p p2 q pos : Pos}
    (hc : X.calm = true) (h1 : Gl X "len") (h2 : X.mg "len" = none)
    (h3 : Gl X "set") (h4 : X.mg "set" = none) (ha : PE X a ta)
    (na : starEach [a] X.env =
      (false, eval a X.env) :: starEach [] X.env := by rfl) :
    PE X (.Call (.Name "len" p) [.Call (.Name "set" p2) [a] [] q] [] pos)
      (tLenSetL X.K ta) := by
  constructor
  intro pins s σ H Q I h
  refine Call_ (ld_blt I h1 h2
    PySem.boot_len ?_)
  refine callWith_builtin1
    (args_cons ?_ rfl) rfl rfl
  refine Call_ (ld_blt I h3 h4
    PyProof.Rows.boot_set ?_)
  have go := ha.run pins s σ H _ I h
  refine callWith_type1 (args_cons
    (thn go ?_) na) na rfl
  intro v s1 ⟨x, H1, I1, r1, z⟩
  refine args_nil ?_
  obtain ⟨l, ns, rfl, hq, hl, z⟩ := z
  cases r1
  obtain ⟨its, r, pl, _⟩ := I1.list hq
  have hil : its.toArray.size = ns.length := by
    rw [List.size_toArray, ← r.length, List.length_map]
  refine call_set_list (I1.ok.hd hc) pl.isList (ns := ns)
    (by simpa using r.ints) (by rw [hil]; unfold scanBound; omega) ?_
  intro h' tk hS hk
  refine args_nil ?_
  rw [hil] at hS
  obtain ⟨o, es, ep, t, ho, hex, hd, _, _, hb, hf, hn⟩ := hS
  have I2 : Inv X pins σ H1 { s1 with heap := h', toks := tk } :=
    I1.kept fun b o e => hk b o (Heap.lt_size e) e
  have hD : Dist ns (firstMet (fun i => ns.getD i 0) ns.length).length :=
    ⟨_, firstMet_nd _ _, firstMet_mem ns, rfl⟩
  refine call_len_set ho hex hd hf
    (by rw [hn]; unfold scanBound at *; omega) ?_
  exact ⟨.int _, H1, I2.tok _, ⟨_, by rw [hn]⟩, z _ hD⟩
end
section
variable {K : PySem.W.Frag} {l : Option Addr} {ρ : Ro} {m : Nat}
variable {Φ : Nat → D → Prop} {ta : TE}
theorem e_lenSetL (h : EvC K l ta ρ m fun m1 d => ∃ ns : List Int,
      d = .lst (ns.map D.int) ∧ ns.length < 4000 ∧
      ∀ c : Nat, Dist ns c → Φ m1 (.int c)) :
    EvC K l (tLenSetL K ta) ρ m Φ := by
  intro Z B H σ Q ok k
  refine h Z B H σ _ ok fun v d m1 B1 H1 o1 f1 i1 g1 => ?_
  obtain ⟨ns, rfl, hl, hq⟩ := g1
  cases i1 with
  | @lst a vs _ hT is =>
    have e := isAll_nums is
    subst e
    exact ⟨a, ns, rfl, SqL.of (o1.sub _ _ hT), hl, fun c hc =>
      k _ _ m1 B1 H1 o1 f1 (.int _) (hq c hc)⟩
end
end Wt

/-! Two clauses over tuples of pairs, the second one with a test. -/
namespace Wt
open PySem PySem.Spec PyProof.Rows L2
section
variable {K : PySem.W.Frag} {l : Option Addr} {ρ : Ro} {m : Nat}
variable {Φ : Nat → D → Prop} {te tl tl2 : TE} {tt : TT}
variable {Z : Addr → Prop} {B H : Hp} {σ : L2.St}
theorem Ok.down {σ' : L2.St} {ρ' : Ro} (h : Ok K l Z m B H σ' ρ') (hl : σ.length = ρ.length)
    (ha : ∀ (k : Nat) x, ρ[k]? = some (some x) → ρ'[k]? = some (some x) ∧ σ[k]? = σ'[k]?) :
    Ok K l Z m B H σ ρ := by
  refine ⟨h.toBs, hl, fun i s q => ?_, fun i j ds es a n q1 q2 e => ?_⟩
  · obtain ⟨q', e⟩ := ha i s q
    rw [e]
    exact h.sl i s q'
  · obtain ⟨q1', e1⟩ := ha i _ q1
    obtain ⟨q2', e2⟩ := ha j _ q2
    rw [e1] at e
    rw [e2]
    exact h.dis i j ds es a n q1' q2' e
theorem wipe_same {σ' : L2.St} : ∀ {vs : List Nat}, σ'.length = σ.length →
    (∀ k, k ∉ vs → σ'[k]? = σ[k]?) → wipe σ' vs = wipe σ vs := by
  have key : ∀ (vs : List Nat) (τ : L2.St) (k : Nat), k ∈ vs → k < τ.length → (wipe τ vs)[k]? = some none := by
    intro vs
    induction vs with
    | nil => intro τ k hk; cases hk
    | cons v vs ih =>
      intro τ k hk hl
      show ((wipe τ vs).set v none)[k]? = some none
      by_cases e : v = k
      · subst e
        rw [List.getElem?_set_self (by rw [wipe_length]; exact hl)]
      · rw [List.getElem?_set_ne e]
        rcases List.mem_cons.mp hk with z | z
        · exact absurd z.symm e
        · exact ih τ k z hl
  intro vs hl ha
  apply List.ext_getElem?
  intro k
  by_cases hk : k ∈ vs
  · by_cases hb : k < σ.length
    · rw [key vs σ' k hk (by omega), key vs σ k hk hb]
    · rw [List.getElem?_eq_none (by rw [wipe_length]; omega), List.getElem?_eq_none (by rw [wipe_length]; omega)]
  · rw [wipe_out hk, wipe_out hk, ha k hk]
/-- what holds amid the second clause -/
def LcT2 (K : PySem.W.Frag) (l : Option Addr) (Z : Addr → Prop) (ρ : Ro)
    (σ : L2.St) (B H : Hp) (A : Addr) (B3 : Hp) (I : Nat → List D → Prop)
    (H' : Hp) : Prop :=
  ∃ n acc xs B', Ok K l (fun a => Z a ∨ a = A) n B' H' σ ρ ∧
    Fr Z B H B' H' ∧ Same B3 B' ∧ H' A = some (.lst xs) ∧ IsAll K B' xs acc ∧ I n acc
theorem e_lcTT2 {i j p q : Nat} (hi : ρ[i]? = some none) (hj : ρ[j]? = some none)
    (hp : ρ[p]? = some none) (hq : ρ[q]? = some none) (hij : i ≠ j) (hip : i ≠ p) (hiq : i ≠ q)
    (hjp : j ≠ p) (hjq : j ≠ q) (hpq : p ≠ q)
    (h : EvC K l tl ρ m fun m1 x => ∃ ds, x = .tup ds ∧
      ∃ I : Nat → Nat → List D → Prop, I 0 m1 [] ∧
      (∀ c n acc d, ds[c]? = some d → I c n acc → ∃ a b, d = .tup [a, b] ∧
        EvC K l tl2 ((ρ.set i (some (.dat a))).set j (some (.dat b))) n fun n1 x2 => ∃ es, x2 = .tup es ∧
          ∃ J : Nat → Nat → List D → Prop, J 0 n1 acc ∧
          (∀ (t n : Nat) acc e, es[t]? = some e → J t n acc → acc.length < 100000 ∧ ∃ a2 b2, e = .tup [a2, b2] ∧
            TvC K l tt ((((ρ.set i (some (.dat a))).set j (some (.dat b))).set p (some (.dat a2))).set q (some (.dat b2))) n
              fun n2 bb => if bb = true then
                EvC K l te ((((ρ.set i (some (.dat a))).set j (some (.dat b))).set p (some (.dat a2))).set q (some (.dat b2))) n2
                  fun n3 y => J (t + 1) n3 (acc ++ [y])
              else J (t + 1) n2 acc) ∧
          ∀ n acc, J es.length n acc → I (c + 1) n acc) ∧
      ∀ n acc, I ds.length n acc → Φ n (.lst acc)) :
    EvC K l (tLc2 (iTup K tl) (g2 K i j) tYes (iTup K tl2) (g2 K p q) tt te
      [i, j, p, q] [p, q]) ρ m Φ := by
  have nk : ∀ (s k : Nat) x, ρ[s]? = some none → ρ[k]? = some (some x) → s ≠ k := fun s k x e q z => by
    subst z; rw [e] at q; cases q
  have nm : ∀ (k : Nat) x, ρ[k]? = some (some x) → k ∉ [i, j, p, q] := fun k x e z => by
    simp only [List.mem_cons, List.not_mem_nil, or_false] at z
    rcases z with z | z | z | z
    · exact nk i k x hi e z.symm
    · exact nk j k x hj e z.symm
    · exact nk p k x hp e z.symm
    · exact nk q k x hq e z.symm
  intro Z B H σ Q ok kk
  have hsl := ok.len
  refine h Z B H σ _ ok fun v x m1 B1 H1 o1 f1 i1 g1 => ?_
  obtain ⟨ds, rfl, I, h0, hs, hd⟩ := g1
  cases i1 with
  | @tup a us _ hu r1 _ =>
    have hlen := r1.length
    refine ⟨a, rfl, ⟨us, sameT o1.sub hu⟩, fun A hA => ?_⟩
    have hz : ¬ Z A := fun z => (o1.zs A z).1 hA
    refine ⟨fun c m H' => m = us.length - c ∧ c ≤ us.length ∧
      LcV K l Z ρ σ B1 H1 A (I c) H', ⟨us.length, rfl, Nat.zero_le _, m1, [], [],
        B1, o1.aside hA, ⟨Same.refl B1, fun z q => upd_ne fun e =>
          hz (e ▸ q)⟩, upd_same, .nil, h0⟩, ?_⟩
    rintro c mm H' ⟨rfl, hc, w⟩
    obtain ⟨n, acc, xs, B', ok', fr', hA', is', hI⟩ := w
    have hL : SqT K H' a us := sameT ok'.sub (sameT fr'.sub hu)
    by_cases hlt : c < us.length
    · refine .inr ⟨⟨us, us[c], hL, by simp [hlt]⟩,
        fun H2 => LcV K l Z ρ σ B1 H1 A (I (c + 1)) H2,
        fun H2 q => ⟨us.length - (c + 1), by omega, rfl, hlt, q⟩,
        fun x H2 y => ?_⟩
      obtain ⟨rfl, y⟩ := y
      have ex := y us hL
      obtain ⟨d, e2, pd⟩ := (r1.mono fr'.sub).get ex
      obtain ⟨da, db, rfl, hb⟩ := hs c n acc d e2 hI
      have unp : ∀ {B3 : Hp}, Same B' B3 → ∃ (T : Addr) (u w : V), x = .ref T ∧ SqT K B3 T [u, w] ∧ Is K B3 u da ∧ Is K B3 w db := fun {B3} sb => by
        cases Is.mono sb pd with
        | @tup T vs _ hv r _ =>
          obtain ⟨u, w, rfl, p1, p2⟩ := isAll2 r
          exact ⟨T, u, w, rfl, hv, p1, p2⟩
      obtain ⟨T, u, w, rfl, hT, pu, pw⟩ := unp (Same.refl _)
      have ne4 : ∀ (k : Nat) x, ρ[k]? = some (some x) → i ≠ k ∧ j ≠ k ∧ p ≠ k ∧ q ≠ k := fun k x e =>
        ⟨nk i k x hi e, nk j k x hj e, nk p k x hp e, nk q k x hq e⟩
      have l1 : (((wipe σ [i, j, p, q]).set i (some u)).set j (some w)).length = σ.length := by
        rw [List.length_set, List.length_set, wipe_length]
      refine ⟨T, [u, w], rfl, sameT ok'.sub hT, rfl, u, [w], rfl, w, [], rfl, rfl, ?_⟩
      refine ⟨wipe_same l1 fun k hk => ?_, ?_⟩
      · have hk2 := hk
        simp only [List.mem_cons, List.not_mem_nil, or_false, not_or] at hk2
        rw [List.getElem?_set_ne (Ne.symm hk2.2.1), List.getElem?_set_ne (Ne.symm hk2.1), wipe_out hk]
      unfold tYes
      dsimp only
      rw [if_pos rfl]
      have okW : Ok K l (fun a => Z a ∨ a = A) n B' H2 (wipe σ [i, j, p, q]) ρ :=
        ok'.down (by rw [wipe_length]; exact hsl) fun k x e => ⟨e, wipe_out (nm k x e)⟩
      have okI := (okW.set (i := i) pu).set (i := j) pw
      refine hb _ B' H2 _ _ okI fun v2 x2 n1 B3 H3 o3 f3 i3 g3 => ?_
      obtain ⟨es, rfl, J, j0, js, jd⟩ := g3
      cases i3 with
      | @tup a3 us3 _ hu3 r3 _ =>
        refine ⟨a3, rfl, ⟨us3, sameT o3.sub hu3⟩, ?_⟩
        have hlen3 := r3.length
        have fr3 : Fr Z B1 H1 B3 H3 := fr'.trans (f3.weak fun z q => .inl q)
        have out : ∀ {nn : Nat} {B4 H4 : Hp} {σ4 : L2.St} {ρ4 : Ro}, Ok K l (fun a => Z a ∨ a = A) nn B4 H4 σ4 ρ4 →
            (∀ (k : Nat) x, ρ[k]? = some (some x) → ρ4[k]? = some (some x) ∧ σ[k]? = σ4[k]?) →
            Ok K l (fun a => Z a ∨ a = A) nn B4 H4 σ ρ := fun o ha => o.down hsl ha
        have back2 : ∀ (k : Nat) x, ρ[k]? = some (some x) →
            ((ρ.set i (some (.dat da))).set j (some (.dat db)))[k]? = some (some x) ∧
            σ[k]? = (((wipe σ [i, j, p, q]).set i (some u)).set j (some w))[k]? := fun k x e => by
          obtain ⟨e1, e2, _, _⟩ := ne4 k x e
          rw [List.getElem?_set_ne e2, List.getElem?_set_ne e1, List.getElem?_set_ne e2, List.getElem?_set_ne e1, wipe_out (nm k x e)]
          exact ⟨e, rfl⟩
        refine ⟨fun t k4 H4 => k4 = us3.length - t ∧ t ≤ us3.length ∧
            LcT2 K l Z ρ σ B1 H1 A B3 (J t) H4, ⟨us3.length, rfl, Nat.zero_le _, n1, acc,
          xs, B3, out o3 back2, fr3, Same.refl _, (f3.kept A (.inr rfl)).trans hA',
          is'.mono f3.sub, j0⟩, ?_⟩
        rintro t k4 H4 ⟨rfl, ht, n4, acc4, xs4, B4, ok4, fr4, sB4, hA4, is4, hJ⟩
        have hS4 : SqT K H4 a3 us3 := sameT ok4.sub (sameT sB4 hu3)
        by_cases hlt2 : t < us3.length
        · refine .inr ⟨⟨us3, us3[t], hS4, by simp [hlt2]⟩, fun H5 => LcT2 K l Z ρ σ B1 H1 A B3 (J (t + 1)) H5,
            fun H5 q => ⟨us3.length - (t + 1), by omega, rfl, hlt2, q⟩, fun x5 H5 y5 => ?_⟩
          obtain ⟨rfl, y5⟩ := y5
          have ex5 := y5 us3 hS4
          obtain ⟨d5, e5, pd5⟩ := (r3.mono sB4).get ex5
          obtain ⟨hlen4, a2, b2, rfl, hev⟩ := js t n4 acc4 d5 e5 hJ
          have sB' : Same B' B4 := (f3.sub).trans sB4
          have pu4 : Is K B4 u da := Is.mono sB' pu
          have pw4 : Is K B4 w db := Is.mono sB' pw
          cases pd5 with
          | @tup T5 us5 _ hv5 r5 _ =>
            obtain ⟨u5, w5, rfl, p5, q5⟩ := isAll2 r5
            have l2 : (((wipe (((wipe σ [i, j, p, q]).set i (some u)).set j (some w)) [p, q]).set p (some u5)).set q (some w5)).length = σ.length := by
              rw [List.length_set, List.length_set, wipe_length, l1]
            refine ⟨T5, [u5, w5], rfl, sameT ok4.sub hv5, rfl, u5, [w5], rfl, w5, [], rfl, rfl, ?_⟩
            refine ⟨wipe_same (by rw [l2, l1]) fun k hk => ?_, ?_⟩
            · have hk2 := hk
              simp only [List.mem_cons, List.not_mem_nil, or_false, not_or] at hk2
              rw [List.getElem?_set_ne (Ne.symm hk2.2), List.getElem?_set_ne (Ne.symm hk2.1), wipe_out hk]
            have okW4 : Ok K l (fun a => Z a ∨ a = A) n4 B4 H5 (wipe σ [i, j, p, q]) ρ :=
              ok4.down (by rw [wipe_length]; exact hsl) fun k x e => ⟨e, wipe_out (nm k x e)⟩
            have okI4 := (okW4.set (i := i) pu4).set (i := j) pw4
            have h2p : ((ρ.set i (some (.dat da))).set j (some (.dat db)))[p]? = some none := by
              rw [List.getElem?_set_ne hjp, List.getElem?_set_ne hip]; exact hp
            have h2q : ((ρ.set i (some (.dat da))).set j (some (.dat db)))[q]? = some none := by
              rw [List.getElem?_set_ne hjq, List.getElem?_set_ne hiq]; exact hq
            have okJ4 : Ok K l (fun a => Z a ∨ a = A) n4 B4 H5 (wipe (((wipe σ [i, j, p, q]).set i (some u)).set j (some w)) [p, q])
                ((ρ.set i (some (.dat da))).set j (some (.dat db))) :=
              okI4.down (by rw [wipe_length, l1, List.length_set, List.length_set]; exact hsl) fun k x e => ⟨e, wipe_out (fun z => by
                simp only [List.mem_cons, List.not_mem_nil, or_false] at z
                rcases z with z | z
                · rw [z, h2p] at e; cases e
                · rw [z, h2q] at e; cases e)⟩
            have okK4 := (okJ4.set (i := p) p5).set (i := q) q5
            have back4 : ∀ (k : Nat) x, ρ[k]? = some (some x) →
                ((((ρ.set i (some (.dat da))).set j (some (.dat db))).set p (some (.dat a2))).set q (some (.dat b2)))[k]? = some (some x) ∧
                σ[k]? = (((wipe (((wipe σ [i, j, p, q]).set i (some u)).set j (some w)) [p, q]).set p (some u5)).set q (some w5))[k]? := fun k x e => by
              obtain ⟨e1, e2, e3, e4⟩ := ne4 k x e
              have hm2 : k ∉ [p, q] := fun z => nm k x e (by
                simp only [List.mem_cons, List.not_mem_nil, or_false] at z ⊢
                rcases z with z | z
                · exact .inr (.inr (.inl z))
                · exact .inr (.inr (.inr z)))
              rw [List.getElem?_set_ne e4, List.getElem?_set_ne e3, List.getElem?_set_ne e2, List.getElem?_set_ne e1,
                List.getElem?_set_ne e4, List.getElem?_set_ne e3, wipe_out hm2, List.getElem?_set_ne e2, List.getElem?_set_ne e1, wipe_out (nm k x e)]
              exact ⟨e, rfl⟩
            refine hev _ B4 H5 _ _ okK4 fun bb n6 B6 H6 o6 f6 g6 => ?_
            cases bb with
            | true =>
              rw [if_pos rfl] at g6 ⊢
              refine g6 _ B6 H6 _ _ o6 fun v7 y7 n7 B7 H7 o7 f7 i7 g7 => ?_
              have hA7 : H7 A = some (.lst xs4) := (f7.kept A (.inr rfl)).trans ((f6.kept A (.inr rfl)).trans hA4)
              refine ⟨xs4, hA7, ?_, n7, acc4 ++ [y7], xs4 ++ [v7], B7, (out o7 back4).write (.inr rfl), ?_,
                sB4.trans (f6.sub.trans f7.sub), upd_same, (is4.mono (f6.sub.trans f7.sub)).append (.cons i7 .nil), g7⟩
              · rw [is4.length]
                exact Nat.lt_of_lt_of_le hlen4 (by decide)
              · refine ⟨fr4.sub.trans (f6.sub.trans f7.sub), fun z hz' => ?_⟩
                rw [upd_ne (fun (e : z = A) => hz (e ▸ hz'))]
                exact (f7.kept z (.inl hz')).trans ((f6.kept z (.inl hz')).trans (fr4.kept z hz'))
            | false =>
              rw [if_neg Bool.false_ne_true] at g6 ⊢
              refine ⟨n6, acc4, xs4, B6, out o6 back4, ?_, sB4.trans f6.sub, (f6.kept A (.inr rfl)).trans hA4, is4.mono f6.sub, g6⟩
              exact ⟨fr4.sub.trans f6.sub, fun z hz' => (f6.kept z (.inl hz')).trans (fr4.kept z hz')⟩
        · have et : t = us3.length := by omega
          subst et
          refine .inl ⟨⟨us3, hS4, Nat.le_refl _⟩, ?_⟩
          rw [hlen3] at hJ
          exact ⟨n4, acc4, xs4, B4, ok4, fr4, hA4, is4, jd n4 acc4 hJ⟩
    · have ec : c = us.length := by omega
      subst ec
      refine .inl ⟨⟨us, hL, Nat.le_refl _⟩, ?_⟩
      have z2 := (ok'.zs A (.inr rfl)).2.1
      rw [hlen] at hI
      exact kk _ _ n _ _ (ok'.thaw hA' hz)
        (f1.trans ⟨fr'.sub.trans (same_new z2), fr'.kept⟩)
        (.lst upd_same (is'.mono (same_new z2))) (hd n acc hI)
end
section
variable {K : PySem.W.Frag} {l : Option Addr} {ρ : Ro} {m : Nat}
variable {Nx : Nat → Ro → Prop} {Rt : Nat → D → Prop} {te : TE}
/-- (a, b), (c, d) = x -/
theorem s_unp22 {i j p q : Nat} (h : EvC K l te ρ m fun m1 d => ∃ x y v w,
      d = .tup [.tup [x, y], .tup [v, w]] ∧ Nx m1 ((((ρ.set i (some (.dat x))).set j
        (some (.dat y))).set p (some (.dat v))).set q (some (.dat w)))) :
    SvC K l (tAsg te (gTup K 2 (gCons (g2 K i j) (gCons (g2 K p q) gNil)))) ρ m Nx Rt := by
  intro Z B H σ W ok kk _
  refine h Z B H σ _ ok fun v0 d m1 B1 H1 o1 f1 i1 g1 => ?_
  obtain ⟨x, y, v, w, rfl, qq⟩ := g1
  cases i1 with
  | @tup a us _ hu r =>
    obtain ⟨u1, u2, rfl, h1, h2⟩ := isAll2 r
    cases h1 with
    | @tup a1 us1 _ hu1 r1 =>
      obtain ⟨x1, y1, rfl, p1, p2⟩ := isAll2 r1
      cases h2 with
      | @tup a2 us2 _ hu2 r2 =>
        obtain ⟨x2, y2, rfl, p3, p4⟩ := isAll2 r2
        exact ⟨a, [.ref a1, .ref a2], rfl, sameT o1.sub hu, rfl, .ref a1, [.ref a2], rfl,
          a1, [x1, y1], rfl, sameT o1.sub hu1, rfl, x1, [y1], rfl, y1, [], rfl, rfl,
          .ref a2, [], rfl, a2, [x2, y2], rfl, sameT o1.sub hu2, rfl, x2, [y2], rfl, y2, [], rfl, rfl, rfl,
          kk _ _ m1 B1 H1 ((((o1.set p1).set p2).set p3).set p4) f1 qq⟩
end
section
variable {K : PySem.W.Frag} {l : Option Addr} {ρ : Ro} {m : Nat}
variable {Φ : Nat → D → Prop} {te tl : TE} {tt : TT}
/-- [e for a, b in a tuple of pairs] -/
theorem e_lcT2 {i j : Nat} (hi : ρ[i]? = some none) (hj : ρ[j]? = some none)
    (hij : i ≠ j)
    (h : EvC K l tl ρ m fun m1 x => ∃ ds, x = .tup ds ∧ ds.length ≤ 50000 ∧
      (∀ d ∈ ds, ∃ x y, d = .tup [x, y]) ∧
      ∃ I : Nat → Nat → List D → Prop, I 0 m1 [] ∧
      (∀ c n acc d e, ds[c]? = some (.tup [d, e]) → I c n acc →
        acc.length = c →
        EvC K l te ((ρ.set i (some (.dat d))).set j (some (.dat e))) n
          fun n2 y => I (c + 1) n2 (acc ++ [y])) ∧
      ∀ n acc, acc.length = ds.length → I ds.length n acc →
        Φ n (.lst acc)) :
    EvC K l (tLc (iTup K tl) (g2 K i j) tYes te [i, j]) ρ m Φ := by
  intro Z B H σ Q ok k
  refine h Z B H σ _ ok fun v x m1 B1 H1 o1 f1 i1 g1 => ?_
  obtain ⟨ds, rfl, hl, hpr, I, h0, hs, hd⟩ := g1
  cases i1 with
  | @tup a xs ds hT is =>
    refine ⟨a, rfl, ⟨xs, sameT o1.sub hT⟩, fun A hA => ?_⟩
    have hz : ¬ Z A := fun z => (o1.zs A z).1 hA
    refine lc_tup (xs := xs) (LcW K l Z ρ σ B1 H1 A I)
      (lcw_start o1 hA h0) (fun i H' _ w => ?_) (fun c x H' e w => ?_)
      fun H' w => ?_
    · obtain ⟨n, acc, ys, B', ok', fr', _⟩ := w
      exact sameT ok'.sub (sameT fr'.sub hT)
    · have hc : c < xs.length := (List.getElem?_eq_some_iff.mp e).1
      refine lcw_pair (P := fun d e => ds[c]? = some (.tup [d, e])) hz hi hj
        hij w (fun B' sb => ?_) (by rw [is.length] at hc; omega)
        fun d e n acc => hs c n acc d e
      obtain ⟨d, e2, q⟩ := (is.mono sb).get e
      obtain ⟨y1, y2, rfl⟩ := hpr d (List.mem_of_getElem? e2)
      exact ⟨y1, y2, q, e2⟩
    · rw [is.length] at w
      exact lcw_end hz w hd fun v d m' B2 H2 o2 f2 i2 g2 =>
        k v d m' B2 H2 o2 (f1.trans f2) i2 g2
theorem e_lcT2f {i j : Nat} (hi : ρ[i]? = some none) (hj : ρ[j]? = some none) (hij : i ≠ j)
    (h : EvC K l tl ρ m fun m1 x => ∃ ds, x = .tup ds ∧
      ∃ (α : Type) (xs : List α) (g g' f : α → D), ds = xs.map (fun a => .tup [g a, g' a]) ∧
      xs.length ≤ 50000 ∧
      (∀ (c : Nat) a, xs[c]? = some a →
        EvC K l te ((ρ.set i (some (.dat (g a)))).set j (some (.dat (g' a)))) m1
          fun n2 y => n2 = m1 ∧ y = f a) ∧ Φ m1 (.lst (xs.map f))) :
    EvC K l (tLc (iTup K tl) (g2 K i j) tYes te [i, j]) ρ m Φ := by
  refine e_lcT2 hi hj hij (e_imp h fun m1 x q => ?_)
  obtain ⟨ds, rfl, α, xs, g, g', f, rfl, hl, hb, hq⟩ := q
  refine ⟨_, rfl, by rw [List.length_map]; exact hl, fun d hd => ?_,
    fun c n acc => n = m1 ∧ acc = (xs.take c).map f, ⟨rfl, rfl⟩, fun c n acc d e hc hI _ => ?_,
    fun n acc _ hI => ?_⟩
  · obtain ⟨a, _, rfl⟩ := List.mem_map.mp hd
    exact ⟨_, _, rfl⟩
  · obtain ⟨rfl, rfl⟩ := hI
    rw [List.getElem?_map] at hc
    cases ea : xs[c]? with
    | none => rw [ea] at hc; cases hc
    | some a =>
      rw [ea] at hc
      cases hc
      refine e_imp (hb c a ea) fun n2 y e => ?_
      obtain ⟨rfl, rfl⟩ := e
      refine ⟨rfl, ?_⟩
      rw [List.take_add_one, ea, List.map_append]
      rfl
  · obtain ⟨rfl, rfl⟩ := hI
    rw [List.length_map, List.take_length]
    exact hq
/-- [e for x in a list if t], the test may draw -/
theorem e_lcLx {j : Nat} (hj : ρ[j]? = some none)
    (h : EvC K l tl ρ m fun m1 x => ∃ ds, x = .lst ds ∧ ds.length ≤ 50000 ∧
      ∃ I : Nat → Nat → List D → Prop, I 0 m1 [] ∧
      (∀ (i n : Nat) acc d, ds[i]? = some d → I i n acc →
        TvC K l tt (ρ.set j (some (.dat d))) n fun n1 b =>
          if b = true then EvC K l te (ρ.set j (some (.dat d))) n1
            fun n2 y => I (i + 1) n2 (acc ++ [y]) else I (i + 1) n1 acc) ∧
      ∀ n acc, I ds.length n acc → Φ n (.lst acc)) :
    EvC K l (tLc (iList K tl) (gName j) tt te [j]) ρ m Φ := by
  intro Z B H σ Q ok k
  refine h Z B H σ _ ok fun v x m1 B1 H1 o1 f1 i1 g1 => ?_
  obtain ⟨ds, rfl, hl, I, h0, hs, hd⟩ := g1
  cases i1 with
  | @lst a us _ hT is =>
    refine ⟨a, rfl, ⟨us, SqL.of (o1.sub _ _ hT)⟩, fun A hA => ?_⟩
    have hz : ¬ Z A := fun z => (o1.zs A z).1 hA
    refine lc_list (xs := us) (LcX K l Z ρ σ B1 H1 A I)
      (lcx_start o1 hA h0) (fun i H' _ w => ?_) (fun i x H' e w => ?_)
      fun H' w => ?_
    · obtain ⟨n, acc, ys, B', ok', fr', _⟩ := w
      exact SqL.of (ok'.sub _ _ (fr'.sub _ _ hT))
    · have hi : i < us.length := (List.getElem?_eq_some_iff.mp e).1
      rw [is.length] at hi
      refine lcx_turn (P := fun d => ds[i]? = some d) hz hj w
        (fun B' sb => ?_) (by omega) fun d n acc e hI => hs i n acc d e hI
      obtain ⟨d, e2, q⟩ := (is.mono sb).get e
      exact ⟨d, q, e2⟩
    · rw [is.length] at w
      exact lcx_end hz w hd fun v d m' B2 H2 o2 f2 i2 g2 =>
        k v d m' B2 H2 o2 (f1.trans f2) i2 g2
end
end Wt

/-! Sets of nested tuples: how many unlike items a list of such data has. -/
namespace Wt
open PySem PySem.Spec PyProof.Rows L2
section
variable {P : Program} {w : World} {A : Around} {E : Value → Shared → Prop} {s : Shared}
theorem tupTy {a : Addr} {o : Obj} (h1 : s.heap.get? a = some o) (h2 : o.cls = .type "tuple") : s.TypeIs (.ref a) "tuple" := ⟨o, h1, h2⟩
theorem nested_mem {h : Heap} : ∀ {ks : List NestedKey} {vs : List Value}, NestedAll h ks vs → ∀ v ∈ vs, ∃ k ∈ ks, NestedIs h k v
  | _, _, .nil, v, hv => (nomatch hv)
  | k :: ks, u :: vs, .cons h1 h2, v, hv => by
    rcases List.mem_cons.mp hv with rfl | hv
    · exact ⟨k, List.mem_cons_self, h1⟩
    · obtain ⟨k', hk, h3⟩ := nested_mem h2 v hv
      exact ⟨k', List.mem_cons_of_mem _ hk, h3⟩
/-- whether its hash tells all: either way, nothing changes -/
theorem hash_any : ∀ (n : Nat) {v : Value} {k : NestedKey} {Q : Bool → Shared → Prop}, NestedIs s.heap k v →
    (∀ b, Q b s) → wpAny (model P w) A (hashByValue n v) Q E s := by
  intro n
  induction n with
  | zero =>
    intro v k Q h q
    rw [hashByValue.eq_def]
    cases h <;> exact wpAny_pure (q _)
  | succ n ih =>
    intro v k Q h q
    rw [hashByValue.eq_def]
    cases h with
    | @tup a o vs m ks h1 h2 h3 h4 =>
      refine wpAny_bind (wpAny_specialOf (T := "tuple") (r := some (.builtin "tuple.__hash__")) (tupTy h1 h2) (by rfl) ?_)
      refine wpAny_bind (wpAny_seqItems h1 h3 ?_)
      have hm := nested_mem h4
      refine wpAny_bind (wpAny_mono (Q := fun r s' => s' = s) ?_ ?_ fun _ _ z => z)
      · show wpAny _ _ (forIn vs _ _) _ _ _
        rw [← Array.forIn_toList]
        refine wpAny_forIn_list _ (fun rest _ s' => s' = s ∧ ∀ v ∈ rest, v ∈ vs.toList) _ (fun x rest b s' hI => ?_) (fun b s' hI => hI.1) _ _ ⟨rfl, fun v hv => hv⟩
        obtain ⟨rfl, hI⟩ := hI
        obtain ⟨k', _, hk'⟩ := hm x (hI x List.mem_cons_self)
        refine wpAny_bind (ih hk' fun b => ?_)
        cases b
        · exact wpAny_pure rfl
        · exact wpAny_pure ⟨rfl, fun v hv => hI v (List.mem_cons_of_mem _ hv)⟩
      · rintro ⟨r, _⟩ s' rfl
        cases r <;> exact wpAny_pure (q _)
    | _ => exact wpAny_pure (q _)
theorem depth_mem {k : NestedKey} : ∀ {ks : List NestedKey}, k ∈ ks → k.depth ≤ NestedKey.depthAll ks := by
  intro ks
  induction ks with
  | nil => intro h; cases h
  | cons x r ih =>
    intro h
    rw [NestedKey.depthAll]
    rcases List.mem_cons.mp h with rfl | h
    · omega
    · have := ih h
      omega
/-- none of it is of a class statement -/
theorem class_no : ∀ (n : Nat) {v : Value} {k : NestedKey} {Q : Bool → Shared → Prop}, NestedIs s.heap k v → k.depth ≤ n →
    Q false s → wpAny (model P w) A (ofAClassStatement n v) Q E s := by
  intro n
  induction n with
  | zero =>
    intro v k Q h hd q
    rw [ofAClassStatement.eq_def]
    cases h with
    | @tup a o vs m ks h1 h2 h3 h4 =>
      rw [NestedKey.depth] at hd
      omega
    | _ => exact wpAny_pure q
  | succ n ih =>
    intro v k Q h hd q
    rw [ofAClassStatement.eq_def]
    cases h with
    | @tup a o vs m ks h1 h2 h3 h4 =>
      refine wpAny_bind (wpAny_typeOf (tupTy h1 h2) ?_)
      rw [NestedKey.depth] at hd
      have hm := nested_mem h4
      show wpAny _ _ (if ("tuple" == "tuple") = true then _ else _) _ _ _
      rw [if_pos (by decide)]
      refine wpAny_bind (wpAny_pure ?_)
      show wpAny _ _ (if (!true) = true then _ else _) _ _ _
      rw [if_neg (by decide)]
      refine wpAny_bind (wpAny_seqItems h1 h3 ?_)
      refine wpAny_bind (wpAny_mono (Q := fun r s' => r.1 = none ∧ s' = s) ?_ ?_ fun _ _ z => z)
      · show wpAny _ _ (forIn vs _ _) _ _ _
        rw [← Array.forIn_toList]
        refine wpAny_forIn_list _ (fun rest r s' => r.1 = none ∧ s' = s ∧ ∀ v ∈ rest, v ∈ vs.toList) _ (fun x rest b s' hI => ?_) (fun b s' hI => ⟨hI.1, hI.2.1⟩) _ _ ⟨rfl, rfl, fun v hv => hv⟩
        obtain ⟨_, rfl, hI⟩ := hI
        obtain ⟨k', hk2, hk'⟩ := hm x (hI x List.mem_cons_self)
        have := depth_mem hk2
        refine wpAny_bind (ih hk' (by omega) ?_)
        exact wpAny_pure ⟨rfl, rfl, fun v hv => hI v (List.mem_cons_of_mem _ hv)⟩
      · rintro ⟨r, _⟩ s' ⟨e, rfl⟩
        cases e
        exact wpAny_pure q
    | _ => exact wpAny_pure q
/-- a key that the heap reads at an address -/
def KI (h : Heap) (k : NestedKey) (a : Addr) : Prop := NestedIs h k (.ref a) ∧ k.depth ≤ 8
theorem seen_no {b : Addr} {k : NestedKey} {ys : List Value} {Q : Bool → Shared → Prop} (hb : KI s.heap k b)
    (hy : ∀ y ∈ ys, ∃ k' c, y = .ref c ∧ KI s.heap k' c) (q : Q false s) :
    wpAny (model P w) A (searchCouldBeSeen (.ref b) ys) Q E s := by
  unfold searchCouldBeSeen
  refine wpAny_bind (wpAny_mono (Q := fun r s' => r.1 = none ∧ s' = s) ?_ ?_ fun _ _ z => z)
  · refine wpAny_forIn_list _ (fun rest r s' => r.1 = none ∧ s' = s ∧ ∀ v ∈ rest, v ∈ ys) _ (fun x rest r s' hI => ?_) (fun b s' hI => ⟨hI.1, hI.2.1⟩) _ _ ⟨rfl, rfl, fun v hv => hv⟩
    obtain ⟨_, rfl, hI⟩ := hI
    obtain ⟨k', c, rfl, hc⟩ := hy x (hI x List.mem_cons_self)
    have go : (none : Option Bool) = none ∧ s' = s' ∧ ∀ v ∈ rest, v ∈ ys := ⟨rfl, rfl, fun v hv => hI v (List.mem_cons_of_mem _ hv)⟩
    show wpAny _ _ (if ((b == c) || carriedByValue (.ref b) && carriedByValue (.ref c)) = true then _ else _) _ _ _
    split
    · exact wpAny_pure go
    · refine wpAny_bind ((nestedKind P w).quiet hb ?_)
      show wpAny _ _ (if (!true) = true then _ else _) _ _ _
      rw [if_neg (by decide)]
      refine wpAny_bind ((nestedKind P w).quiet hc ?_)
      show wpAny _ _ (if (!true) = true then _ else _) _ _ _
      rw [if_neg (by decide)]
      refine wpAny_bind (class_no 8 hb.1 hb.2 ?_)
      show wpAny _ _ (if false = true then _ else _) _ _ _
      rw [if_neg (by decide)]
      refine wpAny_bind (class_no 8 hc.1 hc.2 ?_)
      show wpAny _ _ (if false = true then _ else _) _ _ _
      rw [if_neg (by decide)]
      exact wpAny_pure go
  · rintro ⟨r, _⟩ s' ⟨e, rfl⟩
    cases e
    exact wpAny_pure q
/-- the rows of a table -/
def rowsN (w : World) (L : List (Addr × NestedKey)) : List (Int × Value) := L.map fun p => (NestedKey.hash w p.2, .ref p.1)
structure SetN (w : World) (h : Heap) (a : Addr) (L : List (Addr × NestedKey)) (es : Array (Int × Value)) (ep : Nat)
    (t : SetTable) : Prop where
  ob : ∃ o, h.get? a = some o ∧ o.ExactSet ∧ o.data = .set es ep t
  rows : es.toList = rowsN w L
  tab : TabOk t (L.map fun p => NestedKey.hash w p.2)
  nd : (L.map (·.2)).Nodup
  key : ∀ p ∈ L, KI h p.2 p.1
  room : L.length * 5 < t.mask * 3
  few : L.length < 64
theorem SetN.size {a : Addr} {L : List (Addr × NestedKey)} {es : Array (Int × Value)} {ep : Nat} {t : SetTable} {h : Heap}
    (S : SetN w h a L es ep t) : es.size = L.length := by
  rw [← Array.length_toList, S.rows, rowsN, List.length_map]
theorem SetN.fits {a : Addr} {L : List (Addr × NestedKey)} {es : Array (Int × Value)} {ep : Nat} {t : SetTable} {h : Heap}
    (S : SetN w h a L es ep t) : t.fits es.size = true := by
  have h1 := S.tab.sz
  have h2 := S.tab.dm
  have h3 := S.room
  rw [List.length_map] at h1
  unfold SetTable.fits
  rw [S.size, SetTable.fill, h1, h2, Bool.and_eq_true, beq_iff_eq, decide_eq_true_eq]
  refine ⟨rfl, ?_⟩
  show L.length + 0 ≤ t.mask
  omega
theorem SetN.entry {a : Addr} {L : List (Addr × NestedKey)} {es : Array (Int × Value)} {ep : Nat} {t : SetTable} {h : Heap}
    (S : SetN w h a L es ep t) {i : Nat} {p : Addr × NestedKey} (hp : L[i]? = some p) :
    es[i]? = some (NestedKey.hash w p.2, .ref p.1) := by
  rw [← Array.getElem?_toList, S.rows, rowsN, List.getElem?_map, hp]
  rfl
theorem SetN.gw {a : Addr} {L : List (Addr × NestedKey)} {es : Array (Int × Value)} {ep : Nat} {t : SetTable} {h : Heap}
    (S : SetN w h a L es ep t) : ¬ t.gaveWay = true := by
  unfold SetTable.gaveWay
  rcases S.tab.mok with e | e | e <;> rw [e] <;> decide
theorem nth_dm (m i b : Nat) : ∀ c, (nth m (runAt m i b) c).dummy = none := by
  intro c
  induction c with
  | zero => rfl
  | succ c ih =>
    rw [nth_succ, adv]
    split <;> exact ih
theorem ris_inj {l : List Nat} (h : Ris l) {i j v : Nat} (hi : l[i]? = some v) (hj : l[j]? = some v) : i = j := by
  obtain ⟨i1, i2⟩ := List.getElem?_eq_some_iff.mp hi
  obtain ⟨j1, j2⟩ := List.getElem?_eq_some_iff.mp hj
  have key := List.pairwise_iff_getElem.mp h
  rcases Nat.lt_trichotomy i j with z | z | z
  · have := key i j i1 j1 z
    omega
  · exact z
  · have := key j i j1 i1 z
    omega
theorem searchN {a x : Addr} {k : NestedKey} {L : List (Addr × NestedKey)} {es : Array (Int × Value)} {ep : Nat} {t : SetTable}
    (S : SetN w s.heap a L es ep t) (hx : KI s.heap k x) (hu : A.units + 8 < cLine) {K : Nat}
    (hK : K < 10 * SetTable.turns t.mask) (hfree : way t.mask (NestedKey.hash w k) K ∉ t.place.toList)
    (hbusy : ∀ c, c < K → way t.mask (NestedKey.hash w k) c ∈ t.place.toList) {Q : SetFound → Shared → Prop}
    (q1 : k ∈ L.map (·.2) → Q (.there none) s)
    (q2 : k ∉ L.map (·.2) → Q (.free (way t.mask (NestedKey.hash w k) K) false) s) :
    ∀ (f c : Nat) (stand : Option SetTable.Probe),
      stand.getD (t.probeStart (NestedKey.hash w k)) = nth t.mask (runAt t.mask (SetTable.bits (NestedKey.hash w k) % (t.mask + 1)) (SetTable.bits (NestedKey.hash w k))) c →
      c ≤ K → K - c < f →
      (∀ (i : Nat) p, L[i]? = some p → p.2 = k → ∃ c', c ≤ c' ∧ c' < K ∧ t.place.toList[i]? = some (way t.mask (NestedKey.hash w k) c')) →
      wpAny (model P w) A (setSearchFrom a (.ref x) (NestedKey.hash w k) true f stand) Q E s := by
  intro f
  induction f with
  | zero => intro c stand _ _ h; omega
  | succ f ih =>
    intro c stand hst hc hf hin
    obtain ⟨o, ho, hex, hod⟩ := S.ob
    rw [setSearchFrom_succ]
    refine wpAny_bind (wpAny_setState_of ho hod S.fits ?_)
    show wpAny _ _ (if t.gaveWay = true then _ else _) _ _ _
    rw [if_neg S.gw, hst]
    have key := go_spec t S.tab.ris S.tab.dm (fun i => (Option.map (fun x => x.fst) es[i]?).getD 0) (NestedKey.hash w k)
      (10 * SetTable.turns t.mask) (K - c) (nth t.mask (runAt t.mask (SetTable.bits (NestedKey.hash w k) % (t.mask + 1)) (SetTable.bits (NestedKey.hash w k))) c)
      (nth_dm _ _ _ _) (by omega) (fun j hj => by rw [← nth_add]; exact hbusy _ (by omega))
      (by rw [← nth_add, show c + (K - c) = K by omega]; exact hfree)
    have hashAt : ∀ (i : Nat) p, L[i]? = some p → (Option.map (fun x : Int × Value => x.fst) es[i]?).getD 0 = NestedKey.hash w p.2 := fun i p hp => by
      rw [S.entry hp]; rfl
    rcases key with ⟨j, i, hj, hpl, hh, hno, hgo⟩ | ⟨hno, hgo⟩
    · have hil : i < L.length := by
        have := (List.getElem?_eq_some_iff.mp hpl).1
        rw [Array.length_toList, S.tab.sz, List.length_map] at this
        exact this
      obtain ⟨p, hp⟩ : ∃ p, L[i]? = some p := ⟨L[i], List.getElem?_eq_getElem hil⟩
      have hpK := S.key p (List.mem_of_getElem? hp)
      have rest : wpAny (model P w) A (searchRest a (.ref x) (NestedKey.hash w k) true f es t
          (nth t.mask (nth t.mask (runAt t.mask (SetTable.bits (NestedKey.hash w k) % (t.mask + 1)) (SetTable.bits (NestedKey.hash w k))) c) j).j i
          (nth t.mask (nth t.mask (runAt t.mask (SetTable.bits (NestedKey.hash w k) % (t.mask + 1)) (SetTable.bits (NestedKey.hash w k))) c) (j + 1))) Q E s := by
        unfold searchRest
        rw [S.entry hp]
        refine wpAny_bind (wpAny_holding ((nestedKind P w).eqBool hu hpK hx ?_))
        refine wpAny_bind (wpAny_setState_of ho hod S.fits ?_)
        show wpAny _ _ (if (true && decide (p.2 = k)) = true then _ else _) _ _ _
        by_cases e : p.2 = k
        · rw [if_pos (by rw [decide_eq_true e]; rfl)]
          exact wpAny_pure (q1 (List.mem_map.mpr ⟨p, List.mem_of_getElem? hp, e⟩))
        · rw [if_neg (by rw [decide_eq_false e]; decide), sameMem]
          show wpAny _ _ (match if true = true then t.slot _ else SetTable.Slot.empty with | .live i' => _ | x => _) _ _ _
          rw [if_pos rfl, slot_live S.tab.ris hpl]
          show wpAny _ _ (match es[i]? with | some (fst, y') => _ | none => _) _ _ _
          rw [S.entry hp]
          refine wpAny_bind (wpAny_isSame_ref_self ?_)
          refine wpAny_bind (wpAny_pure ?_)
          show wpAny _ _ (if decide (p.2 = k) = true then _ else setSearchFrom a _ _ true f (some _)) _ _ _
          rw [if_neg (by rw [decide_eq_false e]; decide)]
          refine ih (c + (j + 1)) _ ?_ (by omega) (by omega) fun i2 p2 hi2 e2 => ?_
          · exact (nth_add _ _ _ _).symm
          · obtain ⟨c', h1, h2, h3⟩ := hin i2 p2 hi2 e2
            refine ⟨c', ?_, h2, h3⟩
            rcases Nat.lt_or_ge c' (c + (j + 1)) with z | z
            · exfalso
              by_cases z2 : c' = c + j
              · subst z2
                have : i = i2 := by
                  rw [← nth_add] at hpl
                  exact ris_inj S.tab.ris hpl h3
                subst this
                rw [hp] at hi2
                cases hi2
                exact e e2
              · refine hno (c' - c) i2 (by omega) ?_ ?_
                · rw [← nth_add, show c + (c' - c) = c' by omega]; exact h3
                · rw [hashAt i2 p2 hi2, e2]
            · exact z
      show wpAny _ _ (match SetTable.probe.go t _ _ _ _ with | some met => _ | x => _) _ _ _
      rw [hgo]
      show wpAny _ _ (if (!t.led) = true then _ else _) _ _ _
      split
      · refine wpAny_bind (seen_no hx (fun y hy => ?_) ?_)
        · obtain ⟨e, he, rfl⟩ := List.mem_map.mp hy
          have he : e ∈ es.toList := by
            rw [Array.mem_toList_iff] at he ⊢
            exact (Array.mem_filter.mp he).1
          rw [S.rows, rowsN] at he
          obtain ⟨p', hp', rfl⟩ := List.mem_map.mp he
          exact ⟨p'.2, p'.1, rfl, S.key p' hp'⟩
        · show wpAny _ _ (if false = true then _ else _) _ _ _
          rw [if_neg (by decide)]
          exact rest
      · exact rest
    · show wpAny _ _ (match SetTable.probe.go t _ _ _ _ with | some met => _ | x => _) _ _ _
      rw [hgo]
      refine wpAny_pure ?_
      rw [← nth_add, show c + (K - c) = K by omega]
      refine q2 fun hk => ?_
      obtain ⟨p, hp, e⟩ := List.mem_map.mp hk
      obtain ⟨i, hi⟩ := List.getElem?_of_mem hp
      obtain ⟨c', h1, h2, h3⟩ := hin i p hi e
      refine hno (c' - c) i (by omega) ?_ ?_
      · rw [← nth_add, show c + (c' - c) = c' by omega]; exact h3
      · show (Option.map (fun x : Int × Value => x.fst) es[i]?).getD 0 = _
        rw [hashAt i p hi, e]
theorem searchAtN {a x : Addr} {k : NestedKey} {L : List (Addr × NestedKey)} {es : Array (Int × Value)} {ep : Nat} {t : SetTable}
    (S : SetN w s.heap a L es ep t) (hx : KI s.heap k x) (hu : A.units + 8 < cLine) {Q : SetFound → Shared → Prop}
    (q1 : k ∈ L.map (·.2) → Q (.there none) s)
    (q2 : ∀ K, k ∉ L.map (·.2) → way t.mask (NestedKey.hash w k) K ∉ t.place.toList →
      (∀ c, c < K → way t.mask (NestedKey.hash w k) c ∈ t.place.toList) → Q (.free (way t.mask (NestedKey.hash w k) K) false) s) :
    wpAny (model P w) A (setSearch a (.ref x) (NestedKey.hash w k) true) Q E s := by
  have hroom := S.room
  obtain ⟨K, h1, h2, h3⟩ := S.tab.first (by rw [List.length_map]; omega) (NestedKey.hash w k)
  rw [setSearch.eq_def]
  have hK : K < 100000 := by
    have : 10 * SetTable.turns t.mask ≤ 100000 := by
      rcases S.tab.mok with e | e | e <;> rw [e] <;> decide
    omega
  refine searchN S hx hu h1 h2 h3 q1 (fun hn => q2 K hn h2 h3) 100000 0 none (start_run t _) (Nat.zero_le _) (by omega) fun i p hp e => ?_
  have hil := (List.getElem?_eq_some_iff.mp hp).1
  have hsz := S.tab.sz
  rw [List.length_map] at hsz
  obtain ⟨j, hj⟩ : ∃ j, t.place.toList[i]? = some j := ⟨t.place.toList[i]'(by rw [Array.length_toList]; omega), List.getElem?_eq_getElem _⟩
  obtain ⟨c, hc, e2⟩ := S.tab.before (h := NestedKey.hash w k) h2 (by rw [List.getElem?_map, hp, ← e]; rfl) hj
  exact ⟨c, Nat.zero_le _, hc, by rw [hj, e2]⟩
mutual
theorem ni_keep {h h' : Heap} (hk : ∀ b o, h.get? b = some o → o.cls = .type "tuple" → h'.get? b = some o) :
    ∀ {k : NestedKey} {v : Value}, NestedIs h k v → NestedIs h' k v
  | _, _, .none => .none
  | _, _, .bool e => .bool e
  | _, _, .int i t => .int i t
  | _, _, .text x t => .text x t
  | _, _, .tup h1 h2 h3 h4 => .tup (hk _ _ h1 h2) h2 h3 (na_keep hk h4)
theorem na_keep {h h' : Heap} (hk : ∀ b o, h.get? b = some o → o.cls = .type "tuple" → h'.get? b = some o) :
    ∀ {ks : List NestedKey} {vs : List Value}, NestedAll h ks vs → NestedAll h' ks vs
  | _, _, .nil => .nil
  | _, _, .cons h1 h2 => .cons (ni_keep hk h1) (na_keep hk h2)
end
theorem ki_same {h h' : Heap} {k : NestedKey} {a b : Addr} {o : Obj} (hK : KI h k b) (ho : h.get? a = some o)
    (hs : o.ExactSet) (hb : Heap.SameBut a h h') : KI h' k b :=
  ⟨ni_keep (fun c o' e1 e2 => by
    have n : c ≠ a := fun z => by
      subst z
      rw [ho] at e1
      cases e1
      rw [hs.1] at e2
      simp at e2
    rw [hb.2 c n]
    exact e1) hK.1, hK.2⟩
theorem filter_at {α β : Type} (L : List α) (f : α → β) : ∀ l : List Nat,
    l.filterMap (fun i => (L.map f)[i]?) = (l.filterMap fun i => L[i]?).map f := by
  intro l
  induction l with
  | nil => rfl
  | cons i r ih =>
    rw [List.filterMap_cons, List.filterMap_cons, List.getElem?_map]
    cases L[i]? with
    | none => exact ih
    | some x =>
      show f x :: _ = f x :: _
      rw [ih]
theorem filter_range {α : Type} (L : List α) : (List.range L.length).filterMap (fun i => L[i]?) = L := by
  have h1 : (List.range L.length).map (fun i => L[i]?) = L.map some := by
    apply List.ext_getElem
    · simp
    · intro i h1 h2
      have : i < L.length := by simpa using h2
      rw [List.getElem_map, List.getElem_map, List.getElem_range, List.getElem?_eq_getElem this]
  have h2 : (List.range L.length).filterMap (fun i => L[i]?) = ((List.range L.length).map (fun i => L[i]?)).filterMap id := by
    rw [List.filterMap_map]; rfl
  rw [h2, h1, List.filterMap_map]
  exact List.filterMap_some
theorem order_rowsN (L : List (Addr × NestedKey)) (es : Array (Int × Value)) (order : Array Nat)
    (he : es.toList = rowsN w L) (hp : order.toList.Perm (List.range L.length)) :
    ∃ L2, (order.filterMap fun x => es[x]?).toList = rowsN w L2 ∧ L2.Perm L ∧
      L2.map (fun p => NestedKey.hash w p.2) = order.toList.map fun i => (es.map (·.1)).getD i 0 := by
  refine ⟨order.toList.filterMap fun i => L[i]?, ?_, ?_, ?_⟩
  · rw [Array.toList_filterMap, rowsN, ← filter_at]
    congr 1
    funext i
    rw [← Array.getElem?_toList, he]
    rfl
  · have := hp.filterMap fun i => L[i]?
    rwa [filter_range] at this
  · have hall : ∀ i ∈ order.toList, i < L.length := fun i hi => List.mem_range.mp (hp.mem_iff.mp hi)
    revert hall
    generalize order.toList = l
    intro hall
    induction l with
    | nil => rfl
    | cons i r ih =>
      have hi := hall i List.mem_cons_self
      rw [List.filterMap_cons, List.getElem?_eq_getElem hi, List.map_cons]
      show NestedKey.hash w L[i].2 :: _ = _ :: _
      rw [ih fun j hj => hall j (List.mem_cons_of_mem _ hj)]
      congr 1
      have e1 : es[i]? = some (NestedKey.hash w L[i].2, .ref L[i].1) := by
        rw [← Array.getElem?_toList, he, rowsN, List.getElem?_map, List.getElem?_eq_getElem hi]
        rfl
      show _ = (es.map (·.1)).getD i 0
      rw [Array.getD_eq_getD_getElem?, Array.getElem?_map, e1]
      rfl
/-- the rows are laid anew in a greater table -/
theorem relayN {a : Addr} {L : List (Addr × NestedKey)} {es : Array (Int × Value)} {ep : Nat} {t : SetTable} {o : Obj}
    (ho : s.heap.get? a = some o) (hs : o.ExactSet) (hd : o.data = .set es ep t) (he : es.toList = rowsN w L)
    (hfit : t.fits es.size = true) (hnd : (L.map (·.2)).Nodup)
    (hk : ∀ p ∈ L, KI s.heap p.2 p.1) (h64 : L.length < 64) {wanted M : Nat} (hM : SetTable.sizeAbove wanted - 1 = M)
    (hMo : MaskOk M) (hw : SetTable.sizeAbove wanted ≤ 128) (hr : L.length * 5 < M * 3) {Q : Unit → Shared → Prop}
    (q : ∀ (h' : Heap) L' es' ep' t', Heap.SameBut a s.heap h' → SetN w h' a L' es' ep' t' → L'.Perm L →
      Q () { s with heap := h' }) :
    wpAny (model P w) A (setRelay a wanted) Q E s := by
  have hel : es.size = L.length := by rw [← Array.length_toList, he, rowsN, List.length_map]
  obtain ⟨t', order, e1, hp, htab, hm, _⟩ := relaid_ok t (hs := es.map (·.1)) hM hMo (by rw [Array.size_map]; omega)
  rw [Array.size_map, hel] at hp
  obtain ⟨L2, e2, hp2, e3⟩ := order_rowsN (w := w) L es order he hp
  have hl2 : L2.length = L.length := hp2.length_eq
  have hes : (order.filterMap fun x => es[x]?).size = es.size := by
    rw [← Array.length_toList, e2, rowsN, List.length_map, hl2, hel]
  rw [setRelay_eq]
  refine wpAny_bind (wpAny_setState_of ho hd hfit ?_)
  show wpAny _ _ (if SetTable.sizeAbove wanted > sizeLine then _ else _) _ _ _
  rw [if_neg (by unfold sizeLine; omega)]
  show wpAny _ _ (_ >>= _) _ _ _
  rw [e1]
  refine wpAny_bind ?_
  show wpAny _ _ (if ((order.filterMap fun x => es[x]?).size != es.size) = true then _ else _) _ _ _
  rw [if_neg (by rw [hes]; simp)]
  refine wpAny_pure ?_
  refine wpAny_storeSet_of ho hd ?_ (by rw [hes, hel]; unfold sizeLine; omega)
  have sb := Heap.SameBut.update s.heap a (Obj.putSet (order.filterMap fun x => es[x]?) t')
  refine q _ L2 _ (ep + 1) t' sb ⟨⟨_, store_at ho hd, ⟨hs.1, hs.2.1, hs.2.2⟩, rfl⟩, e2, by rw [e3]; exact htab, (hp2.map _).nodup_iff.mpr hnd, fun p hp3 => ?_, by rw [hl2, hm]; exact hr, by omega⟩ hp2
  exact ki_same (hk p (hp2.mem_iff.mp hp3)) ho hs sb
/-- one more is put in -/
theorem addN {a x : Addr} {k : NestedKey} {L : List (Addr × NestedKey)} {es : Array (Int × Value)} {ep : Nat} {t : SetTable}
    (S : SetN w s.heap a L es ep t) (hx : KI s.heap k x) (hu : A.units + 8 < cLine) (h64 : L.length + 1 < 64)
    {Q : Bool → Shared → Prop}
    (q : ∀ b (h' : Heap) L' es' ep' t', Heap.SameBut a s.heap h' → SetN w h' a L' es' ep' t' →
      (k ∈ L.map (·.2) → L' = L) → (k ∉ L.map (·.2) → L'.Perm ((x, k) :: L)) → Q b { s with heap := h' }) :
    wpAny (model P w) A (setAddHashed a (.ref x) (NestedKey.hash w k)) Q E s := by
  obtain ⟨o, ho, hex, hod⟩ := S.ob
  unfold setAddHashed
  refine wpAny_holding ?_
  rw [show (100000 : Nat) = 99999 + 1 from rfl, setAddHashedIn_succ]
  refine wpAny_bind (wpAny_setState_of ho hod S.fits ?_)
  show wpAny _ _ (if byScan (.ref x) es = true then _ else _) _ _ _
  rw [if_neg (show ¬ byScan (.ref x) es = true from fun z => by simp [byScan, Value.scannable] at z)]
  refine wpAny_bind (searchAtN S hx hu (fun hin => ?_) fun K hn h2 h3 => ?_)
  · exact wpAny_pure (q false s.heap L es ep t ⟨rfl, fun _ _ => rfl⟩ S (fun _ => rfl) fun z => absurd hin z)
  · refine wpAny_bind (wpAny_setState_of ho hod S.fits ?_)
    obtain ⟨e1, hbel, htab, hmask, _, _, _, _, hfill⟩ := S.tab.put h2 h3
    generalize hput : t.put (way t.mask (NestedKey.hash w k) K) = r at *
    obtain ⟨t1, p⟩ := r
    dsimp only at e1 htab hmask hfill
    rw [← e1] at htab hbel
    rw [List.length_map] at hbel hfill
    have hsz := S.size
    have hL' : ((L.take p ++ (x, k) :: L.drop p).map fun q => NestedKey.hash w q.2) = (L.map fun q => NestedKey.hash w q.2).take p ++ NestedKey.hash w k :: (L.map fun q => NestedKey.hash w q.2).drop p := by
      rw [List.map_append, List.map_cons, List.map_take, List.map_drop]
    have hrow : (SetTable.insertAt es p (NestedKey.hash w k, Value.ref x)).toList = rowsN w (L.take p ++ (x, k) :: L.drop p) := by
      rw [SetTable.toList_insertAt, S.rows, rowsN, rowsN, List.map_append, List.map_cons, List.map_take, List.map_drop]
    have hperm : (L.take p ++ (x, k) :: L.drop p).Perm ((x, k) :: L) := put_perm L p (x, k)
    have hlen : (L.take p ++ (x, k) :: L.drop p).length = L.length + 1 := by rw [hperm.length_eq]; rfl
    have hes' : (SetTable.insertAt es p (NestedKey.hash w k, Value.ref x)).size = L.length + 1 := by
      rw [← Array.length_toList, hrow, rowsN, List.length_map, hlen]
    have hnd' : ((L.take p ++ (x, k) :: L.drop p).map (·.2)).Nodup := by
      rw [(hperm.map _).nodup_iff, List.map_cons, List.nodup_cons]
      exact ⟨hn, S.nd⟩
    have hroom := S.room
    have core : ∀ t2 : SetTable, t2.mask = t.mask → t2.fill = L.length + 1 →
        TabOk t2 ((L.take p ++ (x, k) :: L.drop p).map fun q => NestedKey.hash w q.2) →
        wpAny (model P w) A (do
          storeSet a (SetTable.insertAt es p (NestedKey.hash w k, Value.ref x)) t2
          if (!false && t2.tooFull) = true then do
            setRelay a (SetTable.grown (es.size + 1))
            pure true
          else pure true) Q E s := fun t2 hm2 hf2 ht2 => by
      refine wpAny_bind (wpAny_storeSet_of ho hod ?_ (by rw [hes']; unfold sizeLine; omega))
      have sb := Heap.SameBut.update s.heap a (Obj.putSet (SetTable.insertAt es p (NestedKey.hash w k, Value.ref x)) t2)
      have ho' := store_at (es' := SetTable.insertAt es p (NestedKey.hash w k, Value.ref x)) (t' := t2) ho hod
      have hex' : Obj.ExactSet { cls := o.cls, dict := o.dict, data := Data.set (SetTable.insertAt es p (NestedKey.hash w k, Value.ref x)) (ep + 1) t2, slots := o.slots } := ⟨hex.1, hex.2.1, hex.2.2⟩
      have hk' : ∀ q ∈ L.take p ++ (x, k) :: L.drop p, KI (s.heap.update a (Obj.putSet (SetTable.insertAt es p (NestedKey.hash w k, Value.ref x)) t2)) q.2 q.1 := fun q hq => by
        rcases List.mem_cons.mp (hperm.mem_iff.mp hq) with rfl | hq
        · exact ki_same hx ho hex sb
        · exact ki_same (S.key q hq) ho hex sb
      by_cases hfull : t2.tooFull = true
      · rw [if_pos (by rw [hfull]; rfl)]
        have hfull2 : t2.mask * 3 ≤ (L.length + 1) * 5 := by
          unfold SetTable.tooFull at hfull
          rw [decide_eq_true_eq, hf2] at hfull
          exact hfull
        rw [hm2] at hfull2
        have hc : L.length + 1 = 5 ∧ t.mask = 7 ∨ L.length + 1 = 19 ∧ t.mask = 31 := by
          rcases S.tab.mok with e | e | e <;> omega
        refine wpAny_bind (relayN (L := L.take p ++ (x, k) :: L.drop p) (M := if L.length + 1 = 5 then 31 else 127) ho' hex' rfl hrow ?_ hnd' hk' (by rw [hlen]; omega) ?_ ?_ ?_ ?_ fun h' L' es' ep' t' hb2 hS hp2 => ?_)
        · unfold SetTable.fits
          rw [hes', Bool.and_eq_true, beq_iff_eq, decide_eq_true_eq, hf2, hm2]
          refine ⟨by rw [ht2.sz, List.length_map, hlen], by omega⟩
        · rcases hc with ⟨e, _⟩ | ⟨e, _⟩
          · rw [hsz, e, if_pos rfl, size_20]
          · rw [hsz, e, if_neg (by decide), size_76]
        · rcases hc with ⟨e, _⟩ | ⟨e, _⟩
          · rw [if_pos e]; exact .inr (.inl rfl)
          · rw [if_neg (by omega)]; exact .inr (.inr rfl)
        · rcases hc with ⟨e, _⟩ | ⟨e, _⟩
          · rw [hsz, e, size_20]; omega
          · rw [hsz, e, size_76]; exact Nat.le_refl _
        · rw [hlen]
          rcases hc with ⟨e, _⟩ | ⟨e, _⟩
          · rw [e, if_pos rfl]; decide
          · rw [e, if_neg (by decide)]; decide
        · refine wpAny_pure (q true h' L' es' ep' t' ⟨hb2.1.trans sb.1, fun b hb => (hb2.2 b hb).trans (sb.2 b hb)⟩ hS (fun z => absurd z hn) fun _ => hp2.trans hperm)
      · rw [if_neg (by rw [Bool.not_eq_true] at hfull; rw [hfull]; decide)]
        refine wpAny_pure (q true _ _ _ (ep + 1) t2 sb ⟨⟨_, ho', ⟨hex.1, hex.2.1, hex.2.2⟩, rfl⟩, hrow, ht2, hnd', hk', ?_, by rw [hlen]; omega⟩ (fun z => absurd z hn) fun _ => hperm)
        unfold SetTable.tooFull at hfull
        rw [decide_eq_true_eq, hf2] at hfull
        rw [hlen]
        omega
    rw [← hL'] at htab
    dsimp only
    rw [hput]
    show wpAny _ _ (if t1.plain = true then _ else _) _ _ _
    split
    · refine wpAny_bind (hash_any 8 hx.1 fun b => ?_)
      cases b
      · exact core { t1 with plain := false } hmask hfill ⟨htab.ris, htab.dm, htab.sz, htab.mok, htab.bd, htab.reach⟩
      · exact core t1 hmask hfill htab
    · exact wpAny_bind (wpAny_pure (core t1 hmask hfill htab))
end
end Wt

/-! set(xs) of a list of nested tuples; how many unlike ones there are. -/
namespace Wt
open PySem PySem.Spec PyProof.Rows L2
section
variable {P : Program} {w : World} {A : Around} {E : Value → Shared → Prop} {s : Shared}
theorem ki_at {h h' : Heap} {k : NestedKey} {b : Addr} (x : KI h k b)
    (hk : ∀ c o, h.get? c = some o → h'.get? c = some o) : KI h' k b :=
  ⟨ni_keep (fun c o e _ => hk c o e) x.1, x.2⟩
theorem SetN.keep {h h' : Heap} {a : Addr} {L : List (Addr × NestedKey)} {es : Array (Int × Value)}
    {ep : Nat} {t : SetTable} (S : SetN w h a L es ep t)
    (ha : ∀ o, h.get? a = some o → h'.get? a = some o) (hk : ∀ p ∈ L, KI h' p.2 p.1) : SetN w h' a L es ep t := by
  obtain ⟨o, ho, r⟩ := S.ob
  exact ⟨⟨o, ha o ho, r⟩, S.rows, S.tab, S.nd, hk, S.room, S.few⟩
abbrev tab0 (w : World) : SetTable := .fresh 0 0 (!w.params.followText "set-order")
abbrev set0 (w : World) : Obj := { cls := .type "set", dict := none, data := .set #[] 0 (tab0 w) }
theorem setN_new {h : Heap} {a : Addr} (ho : h.get? a = some (set0 w)) : SetN w h a [] #[] 0 (tab0 w) where
  ob := ⟨_, ho, ⟨rfl, rfl, rfl⟩, rfl⟩
  rows := rfl
  tab := ⟨.nil, rfl, rfl, .inl rfl, (fun _ z => nomatch z), fun i h j z => by cases z⟩
  nd := .nil
  key := fun _ z => nomatch z
  room := show 0 * 5 < 7 * 3 by decide
  few := show 0 < 64 by decide
/-- what is in it of the first i of ks -/
structure HasN (ks : List (Addr × NestedKey)) (i : Nat) (L : List (Addr × NestedKey)) : Prop where
  sub : ∀ p ∈ L, p ∈ ks.take i
  all : ∀ p ∈ ks.take i, p.2 ∈ L.map (·.2)
  len : L.length ≤ i
theorem HasN.put {ks L L' : List (Addr × NestedKey)} {i : Nat} {x : Addr × NestedKey} (g : HasN ks i L)
    (h : ks[i]? = some x) (c : x.2 ∈ L.map (·.2) ∧ L' = L ∨ L'.Perm (x :: L)) : HasN ks (i + 1) L' := by
  have e : ks.take (i + 1) = ks.take i ++ [x] := L2.take_next h
  rcases c with ⟨hm, rfl⟩ | pm
  · refine ⟨fun p hp => e ▸ List.mem_append_left _ (g.sub p hp), fun p hp => ?_, by have := g.len; omega⟩
    rw [e, List.mem_append, List.mem_singleton] at hp
    rcases hp with z | rfl
    · exact g.all p z
    · exact hm
  · refine ⟨fun p hp => ?_, fun p hp => ?_, by rw [pm.length_eq, List.length_cons]; have := g.len; omega⟩
    · rw [e, List.mem_append, List.mem_singleton]
      rcases List.mem_cons.mp (pm.mem_iff.mp hp) with z | z
      · exact .inr z
      · exact .inl (g.sub p z)
    · rw [(pm.map (·.2)).mem_iff, List.map_cons, List.mem_cons]
      rw [e, List.mem_append, List.mem_singleton] at hp
      rcases hp with z | rfl
      · exact .inr (g.all p z)
      · exact .inl rfl
abbrev Kept (h h' : Heap) : Prop := ∀ b o, h.get? b = some o → h'.get? b = some o
/-- the loop that puts in what an iterator hands out -/
theorem updateN {J : Addr} {fp wr : List Addr} {G : Array GenState → Array GenState → Prop} {n : Nat}
    {Pv : Nat → Value → Prop} {Sx : Nat → Shared → Prop} {R : Result → Shared → Prop}
    (Wk : WalksS P w A.in1 J fp wr G n Pv Sx) (S : Addr) (nS : S ∉ fp) (ks : List (Addr × NestedKey))
    (hn : n = ks.length) (few : ks.length < 64) (hval : ∀ i v, Pv i v → ∃ p, ks[i]? = some p ∧ v = .ref p.1)
    (h0 : Heap) (hk : ∀ p ∈ ks, KI h0 p.2 p.1) (hS0 : h0.get? S = none) (hw0 : ∀ b ∈ wr, h0.get? b = none)
    (hu : A.in1.units + 8 < cLine) : ∀ (k i : Nat) (s : Shared), n - i = k → i ≤ n → Sx i s →
      Kept h0 s.heap → (∃ L es ep t, SetN w s.heap S L es ep t ∧ HasN ks i L) →
      (∀ s' L es ep t, Moved (S :: wr) G s s' → SetN w s'.heap S L es ep t → HasN ks n L →
        Kept h0 s'.heap → R (.ok (.ret .none)) s') →
      codeAny (model P w) A (.builtin "set.update.loop" ⟨[.ref S, .ref J], []⟩) R s := by
  have nw : S ∉ wr := fun z => nS (Wk.sub _ z)
  have up : ∀ b ∈ wr, b ∈ S :: wr := fun b z => .tail _ z
  have go : ∀ {s s' : Shared}, Moved wr G s s' → Kept h0 s.heap → Kept h0 s'.heap := fun m kp b o e =>
    m.heap b o (fun z => by rw [hw0 b z] at e; cases e) (kp b o e)
  intro k
  induction k with
  | zero =>
    intro i s ek hi st kp ⟨L, es, ep, t, hS, g⟩ fin
    obtain rfl : i = n := by omega
    refine codeAny_builtin F.entry_set_update_loop ?_
    rw [Around.under_plainId F.plain_set_update_loop _]
    show wpAny _ _ (pyNext (.ref J) >>= _) _ _ s
    refine wpAny_bind (Wk.done s _ _ st fun s' m => ?_)
    have kp' := go m kp
    refine wpAny_pure (fin s' L es ep t (m.mono up) (hS.keep (fun o e => m.heap S o nw e) fun p hp => ?_) g kp')
    exact ki_at (hk p (List.mem_of_mem_take (g.sub p hp))) kp'
  | succ k ih =>
    intro i s ek hi st kp ⟨L, es, ep, t, hS, g⟩ fin
    have lt : i < n := by omega
    refine codeAny_builtin F.entry_set_update_loop ?_
    rw [Around.under_plainId F.plain_set_update_loop _]
    show wpAny _ _ (pyNext (.ref J) >>= _) _ _ s
    refine wpAny_bind (Wk.item i s _ _ lt st fun v s' hv st' m => ?_)
    obtain ⟨p, hp, rfl⟩ := hval i v hv
    have kp' := go m kp
    have hS' : SetN w s'.heap S L es ep t := hS.keep (fun o e => m.heap S o nw e) fun q hq =>
      ki_at (hk q (List.mem_of_mem_take (g.sub q hq))) kp'
    have hx : KI s'.heap p.2 p.1 := ki_at (hk p (List.mem_of_getElem? hp)) kp'
    show wpAny _ _ (holding [Value.ref p.1] (setAdd S (.ref p.1)) >>= _) _ _ s'
    refine wpAny_bind (wpAny_holding ?_)
    unfold setAdd
    refine wpAny_holding (wpAny_bind ((nestedKind P w).pyHash hu hx ?_))
    refine addN (s := { s' with toks := s'.toks + (nestedKind P w).draws p.2 }) hS' hx hu (by have := g.len; omega) ?_
    intro b h' L' es' ep' t' sb hS2 c1 c2
    have g' : HasN ks (i + 1) L' := g.put hp (by
      by_cases c : p.2 ∈ L.map (·.2)
      · exact .inl ⟨c, c1 c⟩
      · exact .inr (c2 c))
    have kp2 : Kept h0 h' := fun b o e => (sb.2 b fun z => by rw [z, hS0] at e; cases e).trans (kp' b o e)
    refine wpAny_pure ⟨plainId_quiet F.plain_set_update_loop _, ih (i + 1) _ (by omega) lt
      (Wk.frame _ s' _ _ st' (Nat.le_add_right _ _) fun b hb o e => ?_) kp2 ⟨L', es', ep', t', hS2, g'⟩ ?_⟩
    · exact (sb.2 b fun z => nS (z ▸ hb)).trans e
    intro s2 L2 es2 ep2 t2 m2 hS3 g2 kp3
    refine fin s2 L2 es2 ep2 t2 (Moved.trans Wk.gtrans ((m.mono up).then_heap (Nat.le_add_right _ _) ?_) m2) hS3 g2 kp3
    exact fun b o hb e => (sb.2 b fun z => hb (z ▸ List.mem_cons_self)).trans e
/-- set(xs) -/
theorem call_setN {l : Addr} {its : Array Value} (ks : List (Addr × NestedKey)) {Q : Value → Shared → Prop}
    (hh : A.handled = none) (hl : s.heap.IsList l its) (hit : its.toList = ks.map fun p => Value.ref p.1)
    (hk : ∀ p ∈ ks, KI s.heap p.2 p.1) (few : ks.length < 64) (hu : A.units + 11 < cLine)
    (h : ∀ (h' : Heap) (tk : Nat) L es ep t, SetN w h' s.heap.objs.size L es ep t → HasN ks ks.length L →
      Kept s.heap h' → Q (.ref s.heap.objs.size) { s with heap := h', toks := tk }) :
    wpAny (model P w) A (call (.type "set") [.ref l]) Q E s := by
  have isz : its.size = ks.length := by
    rw [← Array.length_toList, hit, List.length_map]
  obtain ⟨c, tl, mro⟩ := F.called_set.mro
  have made := F.called_set.made; have sub := F.called_set.sub
  refine wpAny_call (codeAny_of_tree ?_)
  show wpAny _ _ (callAny (.type "set") _) _ _ _
  refine wpAny_pure ⟨Code.quiet_builtin _ (by decide +kernel),
    codeAny_builtin F.entry_type_call ?_⟩
  rw [Around.under_plain (weight_type_call_type "set" [.ref l] [])
    rfl]
  have z1 := F.called_set.notType; have z2 := F.called_set.canCreate; have z3 := F.typeCall_set_1 (.ref l)
  repeat (any_goals (first | assumption | wp_step))
  refine codeAny_mono (code_set_led1 (.ref l) (E := E) (Q₁ := fun x s1 => x = .ref s.heap.objs.size ∧
    s1 = { s with heap := s.heap.push (set0 w) }) ⟨rfl, rfl⟩) fun r s1 hr => ?_
  cases r with
  | error e => exact hr
  | ok fl =>
    cases fl with
    | ret x =>
      obtain ⟨rfl, rfl⟩ := hr
      have hS : (s.heap.push (set0 w)).get? s.heap.objs.size = some (set0 w) := Heap.get?_push_size _ rfl
      have hT : Shared.TypeIs { s with heap := s.heap.push (set0 w) } (.ref s.heap.objs.size) "set" := ⟨_, hS, rfl⟩
      have li := F.called_set.init.lookup; have bi := F.called_set.init.bind (.ref s.heap.objs.size)
      repeat (any_goals (first | assumption | wp_step))
      refine codeAny_mono (codeAny_call_builtin (R := wants (fun r s2 => r = .none ∧ ∃ h' tk L es ep t,
        s2 = { s with heap := h', toks := tk } ∧ SetN w h' s.heap.objs.size L es ep t ∧ HasN ks ks.length L ∧
          Kept s.heap h') E) F.called_set.init.plain F.entry_set_init (check_set_init_1 hT ?_)) fun r2 s2 hr2 => ?_
      · obtain ⟨⟨ocls, odict, odata, oslots⟩, hol, hcl, nl, hdl⟩ := hl
        cases hcl; cases hdl
        have hol' := Heap.get?_push_of_some (set0 w) hol
        have y1 := F.sub_list_set; have y2 := F.sub_list_frozenset
        have y3 : (Value.type "list" == Value.type "dict") = false := by decide
        have l1 : (s.heap.push (set0 w)).IsList l its := ⟨_, hol', rfl, nl, rfl⟩
        unfold Builtin.«set.__init__» noKeywords Builtin.Frozenset.updateFrom
        generalize hPI : pyIter = PI
        wp_walk
        subst hPI
        refine wpAny_pyIter_list l1 (wpAny_bind (wpAny_runValue ?_))
        have lS : l < s.heap.objs.size := Heap.lt_size hol
        have h3 : A.in1.in1.in1.handled = none := by simp [hh]
        have sz : (s.heap.push (set0 w)).objs.size = s.heap.objs.size + 1 := Heap.size_push ..
        have ne : l ≠ (s.heap.push (set0 w)).objs.size := by
          rw [sz]; exact Nat.ne_of_lt (Nat.lt_succ_of_lt lS)
        have nS : s.heap.objs.size ∉ [(s.heap.push (set0 w)).objs.size, l] := by
          rw [sz]
          simp only [List.mem_cons, List.not_mem_nil, or_false, not_or]
          exact ⟨Nat.ne_of_lt (Nat.lt_succ_self _), fun z => Nat.lt_irrefl _ (z ▸ lS)⟩
        have hval : ∀ (i : Nat) (v : Value), its[i]? = some v → ∃ p, ks[i]? = some p ∧ v = .ref p.1 := fun i v hv => by
          rw [← Array.getElem?_toList, hit, List.getElem?_map, Option.map_eq_some_iff] at hv
          obtain ⟨p, e1, e2⟩ := hv
          exact ⟨p, e1, e2.symm⟩
        have no : ∀ b, s.heap.objs.size ≤ b → s.heap.get? b = none := fun b hb => by
          cases q : s.heap.get? b with
          | none => rfl
          | some o => exact absurd (Nat.lt_of_lt_of_le (Heap.lt_size q) hb) (Nat.lt_irrefl _)
        refine updateN ((Walks.list h3 _ l ne its).toS) s.heap.objs.size nS ks isz few hval s.heap hk
          (no _ (Nat.le_refl _)) (fun b hb => no b (by rw [List.mem_singleton.mp hb, sz]; exact Nat.le_succ _))
          (by show A.units + 1 + 1 + 1 + 8 < cLine; omega) (its.size - 0) 0 _ (by omega) (Nat.zero_le _)
          ⟨⟨_, Heap.get?_push_size _ rfl, rfl, rfl⟩, l1.push _⟩
          (fun b o e => Heap.get?_push_of_some _ (Heap.get?_push_of_some _ e)) ?_ ?_
        · exact ⟨[], #[], 0, _, setN_new (Heap.get?_push_of_some _ hS), ⟨(fun _ z => nomatch z),
            (fun _ z => nomatch z), Nat.le_refl _⟩⟩
        intro s' L es ep t m hS' g' kp
        obtain ⟨h', g2, d', tk', os'⟩ := s'
        cases (show g2 = s.gens from m.gens)
        cases (show d' = s.drawn from m.drawn)
        cases (show os' = s.os from m.os)
        rw [isz] at g'
        show wpAny _ _ _ _ _ _
        refine wpAny_pure ?_
        show wpAny _ _ (ret Value.none) _ _ _
        exact wpAny_pure ⟨rfl, h', tk', L, es, ep, t, rfl, hS', g', kp⟩
      · cases r2 with
        | error e => exact hr2
        | ok fl2 =>
          cases fl2 with
          | ret r =>
            obtain ⟨rfl, h', tk, L, es, ep, t, rfl, hS', g', kp⟩ := hr2
            repeat (any_goals (first | assumption | wp_step))
            exact h _ _ _ _ _ _ hS' g' kp
          | _ => exact hr2.elim
    | _ => exact hr.elim
end
/-! data as keys -/
mutual
def D.nk : D → NestedKey
  | .int i => .num i
  | .tup xs => .tup (D.nks xs)
  | _ => .none
def D.nks : List D → List NestedKey
  | [] => []
  | x :: xs => D.nk x :: D.nks xs
end
mutual
/-- numbers, and tuples of such -/
def D.keyed : D → Bool
  | .int _ => true
  | .tup xs => D.keyeds xs
  | _ => false
def D.keyeds : List D → Bool
  | [] => true
  | x :: xs => D.keyed x && D.keyeds xs
end
mutual
theorem nk_inj : ∀ {x y : D}, x.keyed = true → y.keyed = true → x.nk = y.nk → x = y
  | .int i, y, _, hy, e => by
    cases y with
    | int j => cases e; rfl
    | tup _ => cases e
    | _ => cases hy
  | .tup xs, y, hx, hy, e => by
    cases y with
    | int j => cases e
    | tup ys => rw [nks_inj (by simpa [D.keyed] using hx) (by simpa [D.keyed] using hy) (NestedKey.tup.inj e)]
    | _ => cases hy
  | .non, _, hx, _, _ => by cases hx
  | .bl _, _, hx, _, _ => by cases hx
  | .str _, _, hx, _, _ => by cases hx
  | .lst _, _, hx, _, _ => by cases hx
  | .dic _, _, hx, _, _ => by cases hx
  | .ins _ _ _, _, hx, _, _ => by cases hx
  | .scr _, _, hx, _, _ => by cases hx
theorem nks_inj : ∀ {xs ys : List D}, D.keyeds xs = true → D.keyeds ys = true → D.nks xs = D.nks ys → xs = ys
  | [], [], _, _, _ => rfl
  | [], _ :: _, _, _, e => by cases e
  | _ :: _, [], _, _, e => by cases e
  | x :: xs, y :: ys, hx, hy, e => by
    rw [D.keyeds, Bool.and_eq_true] at hx hy
    rw [D.nks, D.nks] at e
    injection e with e1 e2
    rw [nk_inj hx.1 hy.1 e1, nks_inj hx.2 hy.2 e2]
end
section
variable {X : Cx}
mutual
theorem nk_is {B : Hp} {pins : List (Addr × Obj)} {σ : L2.St} {H : Hp} {s : Shared} (I : Inv X pins σ H s) (sb : Same B H) :
    ∀ {d : D} {v : V} {u : Value}, Is X.K B v d → d.keyed = true → RelV v u → NestedIs s.heap d.nk u
  | .int i, _, u, h, _, r => by
    cases h
    obtain ⟨t, rfl⟩ := r
    exact .int i t
  | .tup ds, _, u, h, hk, r => by
    cases h with
    | @tup a us _ hu is _ =>
      cases r
      obtain ⟨vs, rv, ⟨o, ho, hc, n, hd⟩, _⟩ := I.tuple (sameT sb hu)
      exact .tup ho hc hd (nks_is I sb is (by simpa [D.keyed] using hk) rv)
  | .non, _, _, _, hk, _ => by cases hk
  | .bl _, _, _, _, hk, _ => by cases hk
  | .str _, _, _, _, hk, _ => by cases hk
  | .lst _, _, _, _, hk, _ => by cases hk
  | .dic _, _, _, _, hk, _ => by cases hk
  | .ins _ _ _, _, _, _, hk, _ => by cases hk
  | .scr _, _, _, _, hk, _ => by cases hk
theorem nks_is {B : Hp} {pins : List (Addr × Obj)} {σ : L2.St} {H : Hp} {s : Shared} (I : Inv X pins σ H s) (sb : Same B H) :
    ∀ {ds : List D} {vs : List V} {us : List Value}, IsAll X.K B vs ds → D.keyeds ds = true → Vals vs us →
      NestedAll s.heap (D.nks ds) us
  | [], _, _, .nil, _, .nil => .nil
  | d :: ds, _, _, .cons h t, hk, .cons r rs => by
    rw [D.keyeds, Bool.and_eq_true] at hk
    exact .cons (nk_is I sb h hk.1 r) (nks_is I sb t hk.2 rs)
end
end
end Wt
namespace Wt
open PySem PySem.Spec PyProof.Rows L2
/-- c is how many unlike ones there are among ds -/
def DistD (ds : List D) (c : Nat) : Prop :=
  ∃ L : List D, L.Nodup ∧ (∀ k, k ∈ L ↔ k ∈ ds) ∧ c = L.length
theorem distD_full {ds : List D} {c : Nat} (h : DistD ds c) : c = ds.length ↔ ds.Nodup := by
  obtain ⟨L, nd, hm, rfl⟩ := h
  constructor
  · intro e
    have key : ∀ (n : Nat) (A M : List D), A.length = n → A.Nodup → (∀ x ∈ A, x ∈ M) → A.length = M.length → M.Nodup := by
      intro n
      induction n with
      | zero =>
        intro A M h0 _ _ e
        rw [List.eq_nil_of_length_eq_zero (e.symm.trans h0)]
        exact .nil
      | succ n ih =>
        intro A M h0 nA hs e
        match A, h0 with
        | a :: A, h0 =>
        obtain ⟨M1, M2, rfl⟩ := List.append_of_mem (hs a List.mem_cons_self)
        rw [List.nodup_cons] at nA
        have pm : (M1 ++ a :: M2).Perm (a :: (M1 ++ M2)) := List.perm_middle
        have h2 := ih A (M1 ++ M2) (by simpa using h0) nA.2 (fun x hx => by
          rcases List.mem_cons.mp (pm.mem_iff.mp (hs x (List.mem_cons_of_mem _ hx))) with z | z
          · exact absurd (z ▸ hx) nA.1
          · exact z) (by have := pm.length_eq; simp only [List.length_cons] at e this; omega)
        rw [pm.nodup_iff, List.nodup_cons]
        refine ⟨fun z => ?_, h2⟩
        -- a twice among M: then A with a would be longer than what is left
        have sub : ∀ (B C : List D), B.Nodup → (∀ x ∈ B, x ∈ C) → B.length ≤ C.length := by
          intro B
          induction B with
          | nil => intro C _ _; exact Nat.zero_le _
          | cons b B ih2 =>
            intro C nB hs
            obtain ⟨C1, C2, rfl⟩ := List.append_of_mem (hs b List.mem_cons_self)
            rw [List.nodup_cons] at nB
            have := ih2 (C1 ++ C2) nB.2 fun x hx => by
              rcases List.mem_cons.mp ((List.perm_middle (a := b)).mem_iff.mp (hs x (List.mem_cons_of_mem _ hx))) with z | z
              · exact absurd (z ▸ hx) nB.1
              · exact z
            simp only [List.length_append, List.length_cons] at this ⊢
            omega
        have := sub (a :: A) (M1 ++ M2) (List.nodup_cons.mpr nA) fun x hx => by
          rcases List.mem_cons.mp hx with rfl | hx
          · exact z
          · rcases List.mem_cons.mp (pm.mem_iff.mp (hs x (List.mem_cons_of_mem _ hx))) with z2 | z2
            · rw [z2]; exact z
            · exact z2
        have := pm.length_eq
        simp only [List.length_cons] at *
        omega
    exact key _ L ds rfl nd (fun x hx => (hm x).mp hx) e
  · intro hd
    exact ((List.perm_ext_iff_of_nodup nd hd).mpr hm).length_eq
/-- numbers, or unlike tuples that may be keys -/
def tLenSetE (K : PySem.W.Frag) (ta : TE) : TE := fun σ H Q =>
  ta σ H fun x H1 => ∃ (l : Addr) (xs : List V), x = V.ref l ∧ SqL K H1 l xs ∧
    ((∃ ns : List Int, xs = ns.map V.int ∧ ns.length < 4000 ∧ ∀ c, Dist ns c → Q (.int c) H1) ∨
     ∃ (B : Hp) (ts : List (List D)), Same B H1 ∧ IsAll K B xs (ts.map D.tup) ∧ (∀ t ∈ ts, D.keyeds t = true) ∧
       (∀ t ∈ ts, (D.tup t).nk.depth ≤ 8) ∧ ts.length < 64 ∧ ∀ c, DistD (ts.map D.tup) c → Q (.int c) H1)
theorem keyed_refs {X : Cx} {B : Hp} {pins : List (Addr × Obj)} {σ : L2.St} {H : Hp} {s : Shared} (I : Inv X pins σ H s) (sb : Same B H) :
    ∀ {ts : List (List D)} {xs : List V} {us : List Value}, IsAll X.K B xs (ts.map D.tup) → (∀ t ∈ ts, D.keyeds t = true) →
      (∀ t ∈ ts, (D.tup t).nk.depth ≤ 8) → Vals xs us → ∃ ks : List (Addr × NestedKey), us = ks.map (fun p => Value.ref p.1) ∧
        (∀ p ∈ ks, KI s.heap p.2 p.1) ∧ ks.map (·.2) = ts.map fun t => (D.tup t).nk
  | [], _, _, .nil, _, _, .nil => ⟨[], rfl, (fun _ z => nomatch z), rfl⟩
  | t :: ts, _, _, .cons h r, hk, hd, .cons (b := u) hv rv => by
    obtain ⟨ks, rfl, h2, h3⟩ := keyed_refs I sb r (fun t z => hk t (List.mem_cons_of_mem _ z)) (fun t z => hd t (List.mem_cons_of_mem _ z)) rv
    have hn := nk_is I sb h (by simpa [D.keyed] using hk t List.mem_cons_self) hv
    cases h with
    | @tup a us _ hu is _ =>
      cases hv
      refine ⟨(a, (D.tup t).nk) :: ks, rfl, fun p hp => ?_, by rw [List.map_cons, h3]; rfl⟩
      rcases List.mem_cons.mp hp with rfl | hp
      · exact ⟨hn, hd t List.mem_cons_self⟩
      · exact h2 p hp
theorem dist_keys {ts : List (List D)} (hk : ∀ t ∈ ts, D.keyeds t = true) {L : List NestedKey} (nd : L.Nodup)
    (hm : ∀ k, k ∈ L ↔ k ∈ ts.map fun t => (D.tup t).nk) : DistD (ts.map D.tup) L.length := by
  have pick : ∀ L : List NestedKey, (∀ k ∈ L, k ∈ ts.map fun t => (D.tup t).nk) → ∃ M : List D, M.map D.nk = L ∧ ∀ d ∈ M, d ∈ ts.map D.tup := by
    intro L
    induction L with
    | nil => intro _; exact ⟨[], rfl, fun _ z => nomatch z⟩
    | cons k L ih =>
      intro h
      obtain ⟨M, e, hM⟩ := ih fun k z => h k (List.mem_cons_of_mem _ z)
      obtain ⟨t, ht, e2⟩ := List.mem_map.mp (h k List.mem_cons_self)
      refine ⟨.tup t :: M, by rw [List.map_cons, e, e2], fun d hd => ?_⟩
      rcases List.mem_cons.mp hd with rfl | hd
      · exact List.mem_map.mpr ⟨t, ht, rfl⟩
      · exact hM d hd
  obtain ⟨M, rfl, hM⟩ := pick L fun k z => (hm k).mp z
  refine ⟨M, ?_, fun d => ⟨hM d, fun hd => ?_⟩, by rw [List.length_map]⟩
  · exact List.Pairwise.of_map D.nk (fun _ _ hne e => hne (congrArg _ e)) nd
  · obtain ⟨t, ht, rfl⟩ := List.mem_map.mp hd
    obtain ⟨d, hd, e⟩ := List.mem_map.mp ((hm _).mpr (List.mem_map.mpr ⟨t, ht, rfl⟩))
    obtain ⟨t', ht', rfl⟩ := List.mem_map.mp (hM d hd)
    rw [← nk_inj (x := .tup t') (y := .tup t) (by simpa [D.keyed] using hk t' ht') (by simpa [D.keyed] using hk t ht) e]
    exact hd
section
variable {X : Cx}
theorem pe_lenSetE {a : Expr} {ta : TE} {p p2 q pos : Pos} (hu : X.A.units + 64 < cLine)
    (hc : X.calm = true) (h1 : Gl X "len") (h2 : X.mg "len" = none)
    (h3 : Gl X "set") (h4 : X.mg "set" = none) (ha : PE X a ta)
    (na : starEach [a] X.env =
      (false, eval a X.env) :: starEach [] X.env := by rfl) :
    PE X (.Call (.Name "len" p) [.Call (.Name "set" p2) [a] [] q] [] pos)
      (tLenSetE X.K ta) := by
  constructor
  intro pins s σ H Q I h
  refine Call_ (ld_blt I h1 h2
    PySem.boot_len ?_)
  refine callWith_builtin1
    (args_cons ?_ rfl) rfl rfl
  refine Call_ (ld_blt I h3 h4
    PyProof.Rows.boot_set ?_)
  have go := ha.run pins s σ H _ I h
  refine callWith_type1 (args_cons
    (thn go ?_) na) na rfl
  intro v s1 ⟨x, H1, I1, r1, z⟩
  refine args_nil ?_
  obtain ⟨l, xs, rfl, hq, z⟩ := z
  cases r1
  obtain ⟨its, r, pl, _⟩ := I1.list hq
  rcases z with ⟨ns, rfl, hl, z⟩ | ⟨B, ts, sb, is, hk, hd, hl, z⟩
  · have hil : its.toArray.size = ns.length := by
      rw [List.size_toArray, ← r.length, List.length_map]
    refine call_set_list (I1.ok.hd hc) pl.isList (ns := ns)
      (by simpa using r.ints) (by rw [hil]; unfold scanBound; omega) ?_
    intro h' tk hS hk
    refine args_nil ?_
    rw [hil] at hS
    obtain ⟨o, es, ep, t, ho, hex, hd, _, _, hb, hf, hn⟩ := hS
    have I2 : Inv X pins σ H1 { s1 with heap := h', toks := tk } :=
      I1.kept fun b o e => hk b o (Heap.lt_size e) e
    have hD : Dist ns (firstMet (fun i => ns.getD i 0) ns.length).length :=
      ⟨_, firstMet_nd _ _, firstMet_mem ns, rfl⟩
    refine call_len_set ho hex hd hf
      (by rw [hn]; unfold scanBound at *; omega) ?_
    exact ⟨.int _, H1, I2.tok _, ⟨_, by rw [hn]⟩, z _ hD⟩
  · obtain ⟨ks, rfl, hks, hke⟩ := keyed_refs I1 sb is hk hd r
    have hkl : ks.length = ts.length := by
      have := congrArg List.length hke
      rwa [List.length_map, List.length_map] at this
    refine call_setN ks (I1.ok.hd hc) pl.isList (by simp) hks (by omega) (by omega) ?_
    intro h' tk L es ep t hS hL kp
    refine args_nil ?_
    obtain ⟨o, ho, hex, hdt⟩ := hS.ob
    have I2 : Inv X pins σ H1 { s1 with heap := h', toks := tk } :=
      I1.kept fun b o e => kp b o e
    have hfew := hS.few
    have hD : DistD (ts.map D.tup) (L.map (·.2)).length := dist_keys hk hS.nd fun k => by
      rw [← hke]
      constructor
      · intro hk
        obtain ⟨p, hp, rfl⟩ := List.mem_map.mp hk
        exact List.mem_map.mpr ⟨p, List.mem_of_mem_take (hL.sub p hp), rfl⟩
      · intro hk
        obtain ⟨p, hp, rfl⟩ := List.mem_map.mp hk
        exact hL.all p (by rw [List.take_length]; exact hp)
    rw [List.length_map] at hD
    refine call_len_set ho hex hdt hS.fits (by rw [hS.size]; omega) ?_
    exact ⟨.int _, H1, I2.tok _, ⟨_, by rw [hS.size]⟩, z _ hD⟩
end
section
variable {K : PySem.W.Frag} {l : Option Addr} {ρ : Ro} {m : Nat}
variable {Φ : Nat → D → Prop} {ta : TE}
theorem e_lenSetE (h : EvC K l ta ρ m fun m1 d =>
      (∃ ns : List Int, d = .lst (ns.map D.int) ∧ ns.length < 4000 ∧ ∀ c : Nat, Dist ns c → Φ m1 (.int c)) ∨
      ∃ ts : List (List D), d = .lst (ts.map D.tup) ∧ (∀ t ∈ ts, D.keyeds t = true) ∧
        (∀ t ∈ ts, (D.tup t).nk.depth ≤ 8) ∧ ts.length < 64 ∧ ∀ c : Nat, DistD (ts.map D.tup) c → Φ m1 (.int c)) :
    EvC K l (tLenSetE K ta) ρ m Φ := by
  intro Z B H σ Q ok k
  refine h Z B H σ _ ok fun v d m1 B1 H1 o1 f1 i1 g1 => ?_
  rcases g1 with ⟨ns, rfl, hl, hq⟩ | ⟨ts, rfl, hk, hd, hl, hq⟩
  · cases i1 with
    | @lst a vs _ hT is =>
      have e := isAll_nums is
      subst e
      exact ⟨a, _, rfl, SqL.of (o1.sub _ _ hT), .inl ⟨ns, rfl, hl, fun c hc =>
        k _ _ m1 B1 H1 o1 f1 (.int _) (hq c hc)⟩⟩
  · cases i1 with
    | @lst a vs _ hT is =>
      exact ⟨a, vs, rfl, SqL.of (o1.sub _ _ hT), .inr ⟨B1, ts, o1.sub, is, hk, hd, hl, fun c hc =>
        k _ _ m1 B1 H1 o1 f1 (.int _) (hq c hc)⟩⟩
end
end Wt
/-! sorted(t) of a tuple of deeper data -/
namespace Wt
open PySem PySem.Spec PyProof.Rows L2
theorem _root_.L2.Room.u200 {k : Nat} {A : Around} (r : L2.Room k A) : A.units + 200 < cLine := by
  have := r.un
  omega
def rSortTE (K : PySem.W.Frag) : List V → Hp → VK → Prop := fun vs H Q =>
  ∃ (a : Addr) (xs : List V) (B : Hp) (ds : List D), vs = [V.ref a] ∧
    SqT K H a xs ∧ Same B H ∧ IsAll K B xs ds ∧ D.plains ds = true ∧
    PySem.W.AllAlike (ds.map D.py) ∧ PySem.W.Sortable (ds.map D.py) ∧
    ds.length ≤ 100000 ∧ (∀ d ∈ ds, d.py.depth ≤ 100) ∧
    ∀ (ys : List V) (p : Addr), IsAll K B ys (ds.mergeSort leD) →
      H p = none → Q (.ref p) (upd H p (.lst ys))
section
variable {X : Cx}
theorem cr_sortTE (hu : X.A.units + 200 < cLine) :
    CallR X (.builtin "sorted") (rSortTE X.K) := by
  intro pins s σ H vs us Q I r h
  obtain ⟨a, xs, B, ds, rfl, hs, sb, is, hp, hal, hk, hl, hd, q⟩ := h
  obtain ⟨its, rv, pl, _⟩ := I.tuple hs
  rw [Vals.ref1 r]
  have e := each_of I sb is hp rv
  have hz := zip_snd (xs := xs) (ds := ds) is.length
  have hm : (xs.zip ds).map (fun b => b.2.py) = ds.map D.py := by
    conv => rhs; rw [← hz]
    rw [List.map_map]; rfl
  have hbl : (xs.zip ds).length = ds.length := by
    rw [List.length_zip, is.length, Nat.min_self]
  have hb2 : ∀ b ∈ xs.zip ds, b.2 ∈ ds := fun b hb => (List.of_mem_zip (show (b.1, b.2) ∈ xs.zip ds from hb)).2
  refine sorted_tupD (bs := xs.zip ds) (enc := fun b => b.2.py)
    (show s.heap.IsTuple a its.toArray from pl) (e.mono fun _ _ z => z.1) (e.mono fun _ _ z => z.2)
    (by rw [hm]; exact hal) (by rw [hm]; exact hk)
    (by rw [hbl]; exact Nat.le_trans hl (by decide))
    (fun b hb => by have := hd b.2 (hb2 b hb); omega) fun out ho eo => ?_
  obtain ⟨ep, he'⟩ := PyProof.Rows.sortedAll_at s.heap its out.toArray
  obtain ⟨v1, v2⟩ := each_back eo
  have em : ((xs.zip ds).mergeSort (PySem.W.dataLe false fun b => b.2.py)).map (·.2) = ds.mergeSort leD := by
    conv => rhs; rw [← hz]
    exact List.map_mergeSort fun _ _ _ _ => rfl
  rw [em] at v2
  have hlen : (((xs.zip ds).mergeSort (PySem.W.dataLe false fun b => b.2.py)).map (·.1)).length ≤ sizeLine := by
    rw [List.length_map, List.length_mergeSort, hbl]
    exact Nat.le_trans hl (by decide)
  exact ⟨.ref _, upd H (s.heap.objs.size + 1) (.lst _),
    I.laid (t' := s.toks) (fun _ _ => PyProof.Rows.sortedAll_old)
      (Nat.le_succ _) ⟨hlen, out, ep, v1, he'⟩, rfl,
    q _ _ v2 (I.hok.fresh (Nat.le_succ _))⟩
end
section
variable {K : PySem.W.Frag} {l : Option Addr} {ρ : Ro} {m : Nat}
variable {Φ : Nat → D → Prop}
theorem v_sortTE {ds : List D} (hp : D.plains ds = true)
    (hal : PySem.W.AllAlike (ds.map D.py)) (hk : PySem.W.Sortable (ds.map D.py))
    (hl : ds.length ≤ 100000) (hd : ∀ d ∈ ds, d.py.depth ≤ 100)
    (q : Φ m (.lst (ds.mergeSort leD))) :
    VvC K l ρ (rSortTE K) [.tup ds] m Φ := by
  intro Z B H σ vs Q ok is k
  obtain ⟨v, rfl, h2⟩ := isAll1 is
  cases h2 with
  | @tup a us _ hu r _ =>
    refine ⟨a, us, B, ds, rfl, sameT ok.sub hu, ok.sub, r, hp, hal, hk, hl, hd, fun ys p hy hn => ?_⟩
    obtain ⟨o2, f2⟩ := ok.new (o := .lst ys) hn
    exact k _ _ m _ _ o2 f2 (.lst upd_same (hy.mono f2.sub)) q
end
end Wt

/-! x is True, x is not True, of a truth. -/
namespace Wt
open PySem PySem.Spec PyProof.Rows L2
def rIsB (neg : Bool) : R2 := fun x y H Q => ∃ a b, x = V.bl a ∧ y = V.bl b ∧ Q (.bl (xor neg (a == b))) H
section
variable {X : Cx}
theorem op_isB : OpR X (compareOp .Is) (rIsB false) := by
  intro pins s σ H x y v u Q I rx ry h
  obtain ⟨a, b, rfl, rfl, q⟩ := h
  cases rx
  cases ry
  show wpAny _ _ ((isSame (Value.bool a) (Value.bool b)) >>= fun z => pure (Value.bool z)) _ _ s
  refine wpAny_bind (wpAny_isSame_plain (by cases a <;> cases b <;> rfl) (wpAny_pure (fin_bl I q ?_)))
  cases a <;> cases b <;> rfl
theorem op_notB : OpR X (compareOp .IsNot) (rIsB true) := by
  intro pins s σ H x y v u Q I rx ry h
  obtain ⟨a, b, rfl, rfl, q⟩ := h
  cases rx
  cases ry
  show wpAny _ _ ((isSame (Value.bool a) (Value.bool b)) >>= fun z => pure (Value.bool (!z))) _ _ s
  refine wpAny_bind (wpAny_isSame_plain (by cases a <;> cases b <;> rfl) (wpAny_pure (fin_bl I q ?_)))
  cases a <;> cases b <;> rfl
end
section
variable {K : PySem.W.Frag} {l : Option Addr} {ρ : Ro} {m : Nat}
variable {Φ : Nat → D → Prop}
theorem v_isB {n a b : Bool} (q : Φ m (.bl (xor n (a == b)))) :
    VvC K l ρ (fun vs H Q => ∃ x y, vs = [x, y] ∧ rIsB n x y H Q)
      [.bl a, .bl b] m Φ := by
  intro Z B H σ vs Q ok is k
  obtain ⟨v, w, rfl, h, h2⟩ := isAll2 is
  cases h
  cases h2
  exact ⟨_, _, rfl, _, _, rfl, rfl, k _ _ m B H ok Fr.refl (.bl _) q⟩
theorem v_notTT (q : Φ m (.bl false)) :
    VvC K l ρ (fun vs H Q => ∃ x y, vs = [x, y] ∧ rIsB true x y H Q)
      [.bl true, .bl true] m Φ := v_isB q
end
end Wt

/-! rows over tuples with a test -/
namespace Wt
open PySem PySem.Spec PyProof.Rows L2
section
variable {K : PySem.W.Frag} {l : Option Addr} {ρ : Ro} {m : Nat}
variable {Φ : Nat → D → Prop} {tl te : TE} {tt : TT}
/-- [e for x in a tuple if t], the test may draw -/
theorem e_lcTx {j : Nat} (hj : ρ[j]? = some none)
    (h : EvC K l tl ρ m fun m1 x => ∃ ds, x = .tup ds ∧ ds.length ≤ 50000 ∧
      ∃ I : Nat → Nat → List D → Prop, I 0 m1 [] ∧
      (∀ (i n : Nat) acc d, ds[i]? = some d → I i n acc →
        TvC K l tt (ρ.set j (some (.dat d))) n fun n1 b =>
          if b = true then EvC K l te (ρ.set j (some (.dat d))) n1
            fun n2 y => I (i + 1) n2 (acc ++ [y]) else I (i + 1) n1 acc) ∧
      ∀ n acc, I ds.length n acc → Φ n (.lst acc)) :
    EvC K l (tLc (iTup K tl) (gName j) tt te [j]) ρ m Φ := by
  intro Z B H σ Q ok k
  refine h Z B H σ _ ok fun v x m1 B1 H1 o1 f1 i1 g1 => ?_
  obtain ⟨ds, rfl, hl, I, h0, hs, hd⟩ := g1
  cases i1 with
  | @tup a us ds hT is =>
    refine ⟨a, rfl, ⟨us, sameT o1.sub hT⟩, fun A hA => ?_⟩
    have hz : ¬ Z A := fun z => (o1.zs A z).1 hA
    refine lc_tup (xs := us) (LcX K l Z ρ σ B1 H1 A I)
      (lcx_start o1 hA h0) (fun i H' _ w => ?_) (fun i x H' e w => ?_)
      fun H' w => ?_
    · obtain ⟨n, acc, ys, B', ok', fr', _⟩ := w
      exact sameT ok'.sub (sameT fr'.sub hT)
    · have hi : i < us.length := (List.getElem?_eq_some_iff.mp e).1
      rw [is.length] at hi
      refine lcx_turn (P := fun d => ds[i]? = some d) hz hj w
        (fun B' sb => ?_) (by omega) fun d n acc e hI => hs i n acc d e hI
      obtain ⟨d, e2, q⟩ := (is.mono sb).get e
      exact ⟨d, q, e2⟩
    · rw [is.length] at w
      exact lcx_end hz w hd fun v d m' B2 H2 o2 f2 i2 g2 =>
        k v d m' B2 H2 o2 (f1.trans f2) i2 g2
/-- the same, told by a test and a function -/
theorem e_lcTxf {j : Nat} (hj : ρ[j]? = some none)
    (h : EvC K l tl ρ m fun m1 x => ∃ ds, x = .tup ds ∧
      ∃ (α : Type) (xs : List α) (g f : α → D) (p : α → Bool), ds = xs.map g ∧
      xs.length ≤ 50000 ∧
      (∀ (i : Nat) a, xs[i]? = some a →
        TvC K l tt (ρ.set j (some (.dat (g a)))) m1 fun n1 b => n1 = m1 ∧
          b = p a) ∧
      (∀ (i : Nat) a, xs[i]? = some a → EvC K l te (ρ.set j (some (.dat (g a)))) m1
        fun n2 y => n2 = m1 ∧ y = f a) ∧
      Φ m1 (.lst ((xs.filter p).map f))) :
    EvC K l (tLc (iTup K tl) (gName j) tt te [j]) ρ m Φ := by
  refine e_lcTx hj (e_imp h fun m1 x q => ?_)
  obtain ⟨ds, rfl, α, xs, g, f, p, rfl, hl, ht, hb, hq⟩ := q
  refine ⟨_, rfl, by rw [List.length_map]; exact hl, fun i n acc => n = m1 ∧ acc = ((xs.take i).filter p).map f,
    ⟨rfl, rfl⟩, fun i n acc d hd hI => ?_, fun n acc hI => ?_⟩
  · obtain ⟨rfl, rfl⟩ := hI
    rw [List.getElem?_map, Option.map_eq_some_iff] at hd
    obtain ⟨a, ex, rfl⟩ := hd
    refine t_imp (ht i _ ex) fun n1 b e => ?_
    obtain ⟨rfl, rfl⟩ := e
    dsimp only
    rw [List.take_add_one, ex, Option.toList_some, List.filter_append, List.map_append, List.filter_cons]
    cases e : p a with
    | true =>
      rw [if_pos rfl]
      refine e_imp (hb i _ ex) fun n2 y e2 => ?_
      obtain ⟨rfl, rfl⟩ := e2
      exact ⟨rfl, by simp⟩
    | false =>
      rw [if_neg Bool.false_ne_true]
      exact ⟨rfl, by simp⟩
  · obtain ⟨rfl, rfl⟩ := hI
    rw [List.length_map, List.take_length]
    exact hq
end
end Wt
local macro_rules | `(tactic| walk_at "ro") => `(tactic| (try dsimp only [Wt.put, Wt.r_set0, Wt.r_set1, Wt.r_map0, Wt.r_map1, Wt.r_app0, Wt.r_app1]))
local macro_rules | `(tactic| walk_at "ev1") => `(tactic| first
  | with_reducible refine Wt.s_seq ?_ | with_reducible refine Wt.s_ret ?_
  | ((with_reducible refine Wt.s_par ?_); (walk_at "ro")) | ((with_reducible refine Wt.s_repOwn ?_); (walk_at "ro")) | ((with_reducible refine Wt.s_asg ?_); (walk_at "ro"))
  | with_reducible refine Wt.s_if ?_ | with_reducible refine Wt.s_next ?_
  | with_reducible refine Wt.t_or ?_ | with_reducible refine Wt.t_and ?_
  | with_reducible refine Wt.t_not ?_ | with_reducible refine Wt.t_test ?_
  | with_reducible refine Wt.t_B ?_ | with_reducible refine Wt.e_andV ?_
  | with_reducible refine Wt.e_orV ?_ | with_reducible refine Wt.e_notV ?_
  | with_reducible refine Wt.e_if ?_ | with_reducible refine Wt.e_chain ?_
  | ((with_reducible refine Wt.e_hand0 (by with_unfolding_all rfl) ?_); (intro _ _ _))
  | ((with_reducible refine Wt.e_hand1 (by with_unfolding_all rfl) ?_); (intro _ _ _))
  | ((with_reducible refine Wt.e_hand2 (by with_unfolding_all rfl) ?_); (intro _ _ _))
  | with_reducible refine Wt.e_op ?_ | with_reducible refine Wt.e_un ?_
  | with_reducible refine Wt.e_isi Wt.kit_int ?_
  | with_reducible refine Wt.e_isi Wt.kit_bool ?_
  | with_reducible refine Wt.e_isi Wt.kit_tup ?_
  | with_reducible refine Wt.e_cb ?_ | with_reducible refine Wt.e_tup ?_
  | with_reducible refine Wt.e_lst ?_ | with_reducible refine Wt.a_cons ?_
  | with_reducible refine Wt.a_nil ?_ | with_reducible refine Wt.e_int ?_
  | with_reducible refine Wt.e_bl ?_ | with_reducible refine Wt.e_non ?_
  | with_reducible refine Wt.e_str ?_
  | with_reducible refine Wt.e_var (by with_unfolding_all rfl) ?_
  | with_reducible refine Wt.e_dic0 ?_ | with_reducible refine Wt.e_dic1 ?_
  | with_reducible refine Wt.e_callP ?_ | with_reducible refine Wt.e_callR ?_
  | with_reducible refine Wt.e_callH (by with_unfolding_all rfl) ?_
  | with_reducible refine Wt.e_revT ?_ | with_reducible refine Wt.e_tupRg ?_
  | with_reducible refine Wt.e_lstRg ?_ | with_reducible refine Wt.e_slL ?_
  | with_reducible refine Wt.e_make ?_
  | with_reducible refine Wt.e_fld1 (by assumption) ?_
  | with_reducible refine Wt.e_fld2 (by assumption) (by decide) ?_
  | ((with_reducible refine Wt.s_par3 ?_); (walk_at "ro"))
  | with_reducible refine Wt.e_slT ?_ | with_reducible refine Wt.o_none ?_
  | with_reducible refine Wt.o_some ?_
  | with_reducible refine Wt.v_I0 ?_ | with_reducible refine Wt.v_B0 ?_
  | ((with_reducible refine Wt.v_I ?hc ?_); (case hc => first | decide | exact ⟨by decide, by decide, by decide⟩ | exact ⟨by decide, by decide⟩ | exact .inl ⟨by decide, by decide⟩ | exact .inr ⟨by decide, by decide⟩ | assumption))
  | with_reducible refine Wt.v_lenT ?_ | with_reducible refine Wt.v_lenL ?_
  | with_reducible refine Wt.v_neSame ?_ | with_reducible refine Wt.v_eqSame ?_
  | with_reducible refine Wt.v_repr (by assumption) ?_
  | with_reducible refine Wt.v_isNn ?_
  | with_reducible refine Wt.v_lenS ?_ | with_reducible refine Wt.v_eqS ?_
  | with_reducible refine Wt.v_neS ?_ | with_reducible refine Wt.v_abs ?_
  | with_reducible refine Wt.v_intB ?_ | with_reducible refine Wt.v_max2 ?_
  | with_reducible refine Wt.v_min2 ?_ | with_reducible refine Wt.v_listT ?_
  | with_reducible refine Wt.v_tupL ?_ | with_reducible refine Wt.v_neg ?_
  | with_reducible refine Wt.v_ixT (by decide) (by with_unfolding_all rfl) ?_
  | with_reducible refine Wt.v_ixL (by decide) (by with_unfolding_all rfl) ?_
  | with_reducible refine Wt.v_ixN (by assumption) ?_
  | with_reducible refine Wt.v_ixNL (by assumption) ?_
  | with_reducible refine Wt.v_eqDi ?_ | with_reducible refine Wt.v_neDi ?_
  | with_reducible refine Wt.v_eqI ?_ | with_reducible refine Wt.v_neI ?_
  | (rw [if_neg Bool.false_ne_true]) | (rw [if_pos (rfl : true = true)])
  | (rw [Bool.not_true]) | (rw [Bool.not_false])
  | with_reducible refine ⟨_, rfl, ?_⟩
  | with_reducible refine ⟨_, _, rfl, rfl, ?_⟩
  | with_reducible refine ⟨_, _, rfl, ?_⟩
  | ((with_reducible refine And.intro ?hz ?_); (case hz => first | rfl | (simp; done)))
  | ((refine Wt.s_unp2 ?_); (walk_at "ro")) | refine Wt.e_methO (by assumption) (by decide) (by decide) ?_)
local macro_rules | `(tactic| walk_at "ev") => `(tactic| (repeat walk_at "ev1"))
local macro_rules | `(tactic| walk_at "body") => `(tactic| (dsimp only [L2.cxOf, L2.Cx.nox, L2.Cx.blk, List.length_cons, List.length_nil, Wt.datR, Wt.r_map0, Wt.r_map1, Nat.reduceAdd, Nat.reduceSub, Nat.zero_add, Wt.r_rep0, Wt.r_rep1, List.replicate, Wt.r_app0, Wt.r_app1]))
namespace Wl
open PySem PySem.Spec PyProof.Rows L2 Wt
def topS (i : Nat) : Stmt := PySem.Challenge.pw_wholeturn_k22_parts_of_likenesses.main.body.getD i (.Pass ⟨0, 0, 0, 0⟩)
def inS (i j : Nat) : Stmt := match topS i with
  | .ClassDef _ _ _ b _ _ _ _ _ _ _ => b.getD j (.Pass ⟨0, 0, 0, 0⟩)
  | _ => .Pass ⟨0, 0, 0, 0⟩
abbrev s_is_whole : Stmt := topS 4
theorem sc_is_whole : FnScope ["thing"] ["thing"] (defScope s_is_whole) :=
  ⟨rfl, rfl, rfl, by decide +kernel, rfl, by decide +kernel, by decide +kernel⟩
theorem bi_is_whole {K : PySem.W.Frag} {f : Addr} {fd : FuncData}
    (F : Fun K "is_whole" "is_whole" s_is_whole f fd) : Binds K fd ["thing"] [] :=
  F.binds fun _ _ _ _ _ _ us hl => match us, hl with | [_], _ => rfl
abbrev s_is_within : Stmt := topS 5
theorem sc_is_within : FnScope ["thing", "least", "most"] ["thing", "least", "most"] (defScope s_is_within) :=
  ⟨rfl, rfl, rfl, by decide +kernel, rfl, by decide +kernel, by decide +kernel⟩
theorem bi_is_within {K : PySem.W.Frag} {f : Addr} {fd : FuncData}
    (F : Fun K "is_within" "is_within" s_is_within f fd) : Binds K fd ["thing", "least", "most"] [] :=
  F.binds fun _ _ _ _ _ _ us hl => match us, hl with | [_, _, _], _ => rfl
abbrev s_is_below : Stmt := topS 6
theorem sc_is_below : FnScope ["thing", "limit"] ["thing", "limit"] (defScope s_is_below) :=
  ⟨rfl, rfl, rfl, by decide +kernel, rfl, by decide +kernel, by decide +kernel⟩
theorem bi_is_below {K : PySem.W.Frag} {f : Addr} {fd : FuncData}
    (F : Fun K "is_below" "is_below" s_is_below f fd) : Binds K fd ["thing", "limit"] [] :=
  F.binds fun _ _ _ _ _ _ us hl => match us, hl with | [_, _], _ => rfl
abbrev s_is_tuple_of : Stmt := topS 7
theorem sc_is_tuple_of : FnScope ["thing", "many"] ["thing", "many"] (defScope s_is_tuple_of) :=
  ⟨rfl, rfl, rfl, by decide +kernel, rfl, by decide +kernel, by decide +kernel⟩
theorem bi_is_tuple_of {K : PySem.W.Frag} {f : Addr} {fd : FuncData}
    (F : Fun K "is_tuple_of" "is_tuple_of" s_is_tuple_of f fd) : Binds K fd ["thing", "many"] [] :=
  F.binds fun _ _ _ _ _ _ us hl => match us, hl with | [_, _], _ => rfl
abbrev s_product : Stmt := topS 8
theorem sc_product : FnScope ["numbers", "result", "number"] ["numbers"] (defScope s_product) :=
  ⟨rfl, rfl, rfl, by decide +kernel, rfl, by decide +kernel, by decide +kernel⟩
theorem bi_product {K : PySem.W.Frag} {f : Addr} {fd : FuncData}
    (F : Fun K "product" "product" s_product f fd) : Binds K fd ["numbers"] [] :=
  F.binds fun _ _ _ _ _ _ us hl => match us, hl with | [_], _ => rfl
abbrev s_are_unlike : Stmt := topS 9
theorem sc_are_unlike : FnScope ["things"] ["things"] (defScope s_are_unlike) :=
  ⟨rfl, rfl, rfl, by decide +kernel, rfl, by decide +kernel, by decide +kernel⟩
theorem bi_are_unlike {K : PySem.W.Frag} {f : Addr} {fd : FuncData}
    (F : Fun K "are_unlike" "are_unlike" s_are_unlike f fd) : Binds K fd ["things"] [] :=
  F.binds fun _ _ _ _ _ _ us hl => match us, hl with | [_], _ => rfl
abbrev s_are_matched : Stmt := topS 10
theorem sc_are_matched : FnScope ["pairs", "one", "other"] ["pairs"] (defScope s_are_matched) :=
  ⟨rfl, rfl, rfl, by decide +kernel, rfl, by decide +kernel, by decide +kernel⟩
theorem bi_are_matched {K : PySem.W.Frag} {f : Addr} {fd : FuncData}
    (F : Fun K "are_matched" "are_matched" s_are_matched f fd) : Binds K fd ["pairs"] [] :=
  F.binds fun _ _ _ _ _ _ us hl => match us, hl with | [_], _ => rfl
abbrev s_is_measure : Stmt := topS 16
theorem sc_is_measure : FnScope ["thing", "number"] ["thing"] (defScope s_is_measure) :=
  ⟨rfl, rfl, rfl, by decide +kernel, rfl, by decide +kernel, by decide +kernel⟩
theorem bi_is_measure {K : PySem.W.Frag} {f : Addr} {fd : FuncData}
    (F : Fun K "is_measure" "is_measure" s_is_measure f fd) : Binds K fd ["thing"] [] :=
  F.binds fun _ _ _ _ _ _ us hl => match us, hl with | [_], _ => rfl
abbrev s_is_tie : Stmt := topS 17
theorem sc_is_tie : FnScope ["measure", "thing", "number", "limit"] ["measure", "thing"] (defScope s_is_tie) :=
  ⟨rfl, rfl, rfl, by decide +kernel, rfl, by decide +kernel, by decide +kernel⟩
theorem bi_is_tie {K : PySem.W.Frag} {f : Addr} {fd : FuncData}
    (F : Fun K "is_tie" "is_tie" s_is_tie f fd) : Binds K fd ["measure", "thing"] [] :=
  F.binds fun _ _ _ _ _ _ us hl => match us, hl with | [_, _], _ => rfl
abbrev s_are_ties : Stmt := topS 18
theorem sc_are_ties : FnScope ["measure", "thing", "many", "part"] ["measure", "thing", "many"] (defScope s_are_ties) :=
  ⟨rfl, rfl, rfl, by decide +kernel, rfl, by decide +kernel, by decide +kernel⟩
theorem bi_are_ties {K : PySem.W.Frag} {f : Addr} {fd : FuncData}
    (F : Fun K "are_ties" "are_ties" s_are_ties f fd) : Binds K fd ["measure", "thing", "many"] [] :=
  F.binds fun _ _ _ _ _ _ us hl => match us, hl with | [_, _, _], _ => rfl
abbrev s_nought : Stmt := topS 19
theorem sc_nought : FnScope ["measure"] ["measure"] (defScope s_nought) :=
  ⟨rfl, rfl, rfl, by decide +kernel, rfl, by decide +kernel, by decide +kernel⟩
theorem bi_nought {K : PySem.W.Frag} {f : Addr} {fd : FuncData}
    (F : Fun K "nought" "nought" s_nought f fd) : Binds K fd ["measure"] [] :=
  F.binds fun _ _ _ _ _ _ us hl => match us, hl with | [_], _ => rfl
abbrev s_tie_less : Stmt := topS 20
theorem sc_tie_less : FnScope ["measure", "one", "other", "left", "right", "limit"] ["measure", "one", "other"] (defScope s_tie_less) :=
  ⟨rfl, rfl, rfl, by decide +kernel, rfl, by decide +kernel, by decide +kernel⟩
theorem bi_tie_less {K : PySem.W.Frag} {f : Addr} {fd : FuncData}
    (F : Fun K "tie_less" "tie_less" s_tie_less f fd) : Binds K fd ["measure", "one", "other"] [] :=
  F.binds fun _ _ _ _ _ _ us hl => match us, hl with | [_, _, _], _ => rfl
abbrev s_is_place : Stmt := topS 22
theorem sc_is_place : FnScope ["frame", "thing", "stem", "says"] ["frame", "thing"] (defScope s_is_place) :=
  ⟨rfl, rfl, rfl, by decide +kernel, rfl, by decide +kernel, by decide +kernel⟩
theorem bi_is_place {K : PySem.W.Frag} {f : Addr} {fd : FuncData}
    (F : Fun K "is_place" "is_place" s_is_place f fd) : Binds K fd ["frame", "thing"] [] :=
  F.binds fun _ _ _ _ _ _ us hl => match us, hl with | [_, _], _ => rfl
abbrev s_standing : Stmt := topS 24
theorem sc_standing : FnScope ["frame", "web", "stems", "stem", "row"] ["frame", "web"] (defScope s_standing) :=
  ⟨rfl, rfl, rfl, by decide +kernel, rfl, by decide +kernel, by decide +kernel⟩
theorem bi_standing {K : PySem.W.Frag} {f : Addr} {fd : FuncData}
    (F : Fun K "standing" "standing" s_standing f fd) : Binds K fd ["frame", "web"] [] :=
  F.binds fun _ _ _ _ _ _ us hl => match us, hl with | [_, _], _ => rfl
abbrev s_table_tie : Stmt := topS 26
theorem sc_table_tie : FnScope ["table", "one", "other"] ["table", "one", "other"] (defScope s_table_tie) :=
  ⟨rfl, rfl, rfl, by decide +kernel, rfl, by decide +kernel, by decide +kernel⟩
theorem bi_table_tie {K : PySem.W.Frag} {f : Addr} {fd : FuncData}
    (F : Fun K "table_tie" "table_tie" s_table_tie f fd) : Binds K fd ["table", "one", "other"] [] :=
  F.binds fun _ _ _ _ _ _ us hl => match us, hl with | [_, _, _], _ => rfl
abbrev s_web_tie : Stmt := topS 27
theorem sc_web_tie : FnScope ["frame", "web", "one", "other", "tie"] ["frame", "web", "one", "other"] (defScope s_web_tie) :=
  ⟨rfl, rfl, rfl, by decide +kernel, rfl, by decide +kernel, by decide +kernel⟩
theorem bi_web_tie {K : PySem.W.Frag} {f : Addr} {fd : FuncData}
    (F : Fun K "web_tie" "web_tie" s_web_tie f fd) : Binds K fd ["frame", "web", "one", "other"] [] :=
  F.binds fun _ _ _ _ _ _ us hl => match us, hl with | [_, _, _, _], _ => rfl
abbrev s_is_likeness : Stmt := topS 29
theorem sc_is_likeness : FnScope ["frame", "web", "other", "thing", "pair"] ["frame", "web", "other", "thing"] (defScope s_is_likeness) :=
  ⟨rfl, rfl, rfl, by decide +kernel, rfl, by decide +kernel, by decide +kernel⟩
theorem bi_is_likeness {K : PySem.W.Frag} {f : Addr} {fd : FuncData}
    (F : Fun K "is_likeness" "is_likeness" s_is_likeness f fd) : Binds K fd ["frame", "web", "other", "thing"] [] :=
  F.binds fun _ _ _ _ _ _ us hl => match us, hl with | [_, _, _, _], _ => rfl
abbrev s_is_stem_pair : Stmt := topS 30
theorem sc_is_stem_pair : FnScope ["frame", "thing", "stem"] ["frame", "thing"] (defScope s_is_stem_pair) :=
  ⟨rfl, rfl, rfl, by decide +kernel, rfl, by decide +kernel, by decide +kernel⟩
theorem bi_is_stem_pair {K : PySem.W.Frag} {f : Addr} {fd : FuncData}
    (F : Fun K "is_stem_pair" "is_stem_pair" s_is_stem_pair f fd) : Binds K fd ["frame", "thing"] [] :=
  F.binds fun _ _ _ _ _ _ us hl => match us, hl with | [_, _], _ => rfl
abbrev s_keeps_hues : Stmt := topS 31
theorem sc_keeps_hues : FnScope ["frame", "pairs", "one", "like"] ["frame", "pairs"] (defScope s_keeps_hues) :=
  ⟨rfl, rfl, rfl, by decide +kernel, rfl, by decide +kernel, by decide +kernel⟩
theorem bi_keeps_hues {K : PySem.W.Frag} {f : Addr} {fd : FuncData}
    (F : Fun K "keeps_hues" "keeps_hues" s_keeps_hues f fd) : Binds K fd ["frame", "pairs"] [] :=
  F.binds fun _ _ _ _ _ _ us hl => match us, hl with | [_, _], _ => rfl
abbrev s_keeps_ties : Stmt := topS 32
theorem sc_keeps_ties : FnScope ["frame", "web", "other", "pairs", "start", "like_start", "end", "like_end"] ["frame", "web", "other", "pairs"] (defScope s_keeps_ties) :=
  ⟨rfl, rfl, rfl, by decide +kernel, rfl, by decide +kernel, by decide +kernel⟩
theorem bi_keeps_ties {K : PySem.W.Frag} {f : Addr} {fd : FuncData}
    (F : Fun K "keeps_ties" "keeps_ties" s_keeps_ties f fd) : Binds K fd ["frame", "web", "other", "pairs"] [] :=
  F.binds fun _ _ _ _ _ _ us hl => match us, hl with | [_, _, _, _], _ => rfl
abbrev s_part_of : Stmt := topS 33
theorem sc_part_of : FnScope ["frame", "web", "other", "likeness", "ahead", "behind", "one", "like"] ["frame", "web", "other", "likeness"] (defScope s_part_of) :=
  ⟨rfl, rfl, rfl, by decide +kernel, rfl, by decide +kernel, by decide +kernel⟩
theorem bi_part_of {K : PySem.W.Frag} {f : Addr} {fd : FuncData}
    (F : Fun K "part_of" "part_of" s_part_of f fd) : Binds K fd ["frame", "web", "other", "likeness"] [] :=
  F.binds fun _ _ _ _ _ _ us hl => match us, hl with | [_, _, _, _], _ => rfl
abbrev s_Frame_init : Stmt := inS 38 0
theorem sc_Frame_init : FnScope ["self", "measure", "hues"] ["self", "measure", "hues"] (defScope s_Frame_init) :=
  ⟨rfl, rfl, rfl, by decide +kernel, rfl, by decide +kernel, by decide +kernel⟩
theorem bi_Frame_init {K : PySem.W.Frag} {f : Addr} {fd : FuncData}
    (F : Fun K "__init__" "Frame.__init__" s_Frame_init f fd) : Binds K fd ["self", "measure", "hues"] [] :=
  F.binds fun _ _ _ _ _ _ us hl => match us, hl with | [_, _, _], _ => rfl
abbrev s_Frame_stem_count : Stmt := inS 38 2
theorem sc_Frame_stem_count : FnScope ["self"] ["self"] (defScope s_Frame_stem_count) :=
  ⟨rfl, rfl, rfl, by decide +kernel, rfl, by decide +kernel, by decide +kernel⟩
theorem bi_Frame_stem_count {K : PySem.W.Frag} {f : Addr} {fd : FuncData}
    (F : Fun K "stem_count" "Frame.stem_count" s_Frame_stem_count f fd) : Binds K fd ["self"] [] :=
  F.binds fun _ _ _ _ _ _ us hl => match us, hl with | [_], _ => rfl
abbrev s_are_hues : Stmt := topS 39
theorem sc_are_hues : FnScope ["thing", "hue"] ["thing"] (defScope s_are_hues) :=
  ⟨rfl, rfl, rfl, by decide +kernel, rfl, by decide +kernel, by decide +kernel⟩
theorem bi_are_hues {K : PySem.W.Frag} {f : Addr} {fd : FuncData}
    (F : Fun K "are_hues" "are_hues" s_are_hues f fd) : Binds K fd ["thing"] [] :=
  F.binds fun _ _ _ _ _ _ us hl => match us, hl with | [_], _ => rfl
abbrev s_is_hue : Stmt := topS 40
theorem sc_is_hue : FnScope ["thing"] ["thing"] (defScope s_is_hue) :=
  ⟨rfl, rfl, rfl, by decide +kernel, rfl, by decide +kernel, by decide +kernel⟩
theorem bi_is_hue {K : PySem.W.Frag} {f : Addr} {fd : FuncData}
    (F : Fun K "is_hue" "is_hue" s_is_hue f fd) : Binds K fd ["thing"] [] :=
  F.binds fun _ _ _ _ _ _ us hl => match us, hl with | [_], _ => rfl
abbrev s_is_part : Stmt := topS 42
theorem sc_is_part : FnScope ["frame", "thing", "row"] ["frame", "thing"] (defScope s_is_part) :=
  ⟨rfl, rfl, rfl, by decide +kernel, rfl, by decide +kernel, by decide +kernel⟩
theorem bi_is_part {K : PySem.W.Frag} {f : Addr} {fd : FuncData}
    (F : Fun K "is_part" "is_part" s_is_part f fd) : Binds K fd ["frame", "thing"] [] :=
  F.binds fun _ _ _ _ _ _ us hl => match us, hl with | [_, _], _ => rfl
abbrev s_is_row : Stmt := topS 43
theorem sc_is_row : FnScope ["frame", "thing", "place"] ["frame", "thing"] (defScope s_is_row) :=
  ⟨rfl, rfl, rfl, by decide +kernel, rfl, by decide +kernel, by decide +kernel⟩
theorem bi_is_row {K : PySem.W.Frag} {f : Addr} {fd : FuncData}
    (F : Fun K "is_row" "is_row" s_is_row f fd) : Binds K fd ["frame", "thing"] [] :=
  F.binds fun _ _ _ _ _ _ us hl => match us, hl with | [_, _], _ => rfl
abbrev s__law_hand : Stmt := topS 45
theorem sc__law_hand : FnScope ["_law_script", "_law_k", "_law_cell", "_law_great"] ["_law_script", "_law_k"] (defScope s__law_hand) :=
  ⟨rfl, rfl, rfl, by decide +kernel, rfl, by decide +kernel, by decide +kernel⟩
theorem bi__law_hand {K : PySem.W.Frag} {f : Addr} {fd : FuncData}
    (F : Fun K "_law_hand" "_law_hand" s__law_hand f fd) : Binds K fd ["_law_script", "_law_k"] [] :=
  F.binds fun _ _ _ _ _ _ us hl => match us, hl with | [_, _], _ => rfl
abbrev s__law_take : Stmt := topS 46
theorem sc__law_take : FnScope ["_law_hand_here", "_law_many", "_law_prime", "_law_drawn", "_law_digit"] ["_law_hand_here", "_law_many"] (defScope s__law_take) :=
  ⟨rfl, rfl, rfl, by decide +kernel, rfl, by decide +kernel, by decide +kernel⟩
theorem bi__law_take {K : PySem.W.Frag} {f : Addr} {fd : FuncData}
    (F : Fun K "_law_take" "_law_take" s__law_take f fd) : Binds K fd ["_law_hand_here", "_law_many"] [] :=
  F.binds fun _ _ _ _ _ _ us hl => match us, hl with | [_, _], _ => rfl
abbrev s__law_of : Stmt := topS 47
theorem sc__law_of : FnScope ["_law_hand_here", "_law_some"] ["_law_hand_here", "_law_some"] (defScope s__law_of) :=
  ⟨rfl, rfl, rfl, by decide +kernel, rfl, by decide +kernel, by decide +kernel⟩
theorem bi__law_of {K : PySem.W.Frag} {f : Addr} {fd : FuncData}
    (F : Fun K "_law_of" "_law_of" s__law_of f fd) : Binds K fd ["_law_hand_here", "_law_some"] [] :=
  F.binds fun _ _ _ _ _ _ us hl => match us, hl with | [_, _], _ => rfl
abbrev s__law_mixed : Stmt := topS 48
theorem sc__law_mixed : FnScope ["_law_hand_here", "_law_some", "_law_left", "_law_found"] ["_law_hand_here", "_law_some"] (defScope s__law_mixed) :=
  ⟨rfl, rfl, rfl, by decide +kernel, rfl, by decide +kernel, by decide +kernel⟩
theorem bi__law_mixed {K : PySem.W.Frag} {f : Addr} {fd : FuncData}
    (F : Fun K "_law_mixed" "_law_mixed" s__law_mixed f fd) : Binds K fd ["_law_hand_here", "_law_some"] [] :=
  F.binds fun _ _ _ _ _ _ us hl => match us, hl with | [_, _], _ => rfl
abbrev s__law_scale : Stmt := topS 49
theorem sc__law_scale : FnScope ["_law_hand_here", "_law_some"] ["_law_hand_here"] (defScope s__law_scale) :=
  ⟨rfl, rfl, rfl, by decide +kernel, rfl, by decide +kernel, by decide +kernel⟩
theorem bi__law_scale {K : PySem.W.Frag} {f : Addr} {fd : FuncData}
    (F : Fun K "_law_scale" "_law_scale" s__law_scale f fd) : Binds K fd ["_law_hand_here"] [] :=
  F.binds fun _ _ _ _ _ _ us hl => match us, hl with | [_], _ => rfl
abbrev s__law_colours : Stmt := topS 50
theorem sc__law_colours : FnScope ["_law_hand_here", "_law_most", "_law_kinds", "_law_turn"] ["_law_hand_here", "_law_most"] (defScope s__law_colours) :=
  ⟨rfl, rfl, rfl, by decide +kernel, rfl, by decide +kernel, by decide +kernel⟩
theorem bi__law_colours {K : PySem.W.Frag} {f : Addr} {fd : FuncData}
    (F : Fun K "_law_colours" "_law_colours" s__law_colours f fd) : Binds K fd ["_law_hand_here", "_law_most"] [] :=
  F.binds fun _ _ _ _ _ _ us hl => match us, hl with | [_, _], _ => rfl
abbrev s__law_knot : Stmt := topS 51
theorem sc__law_knot : FnScope ["_law_hand_here", "_law_scale_here", "_law_size"] ["_law_hand_here", "_law_scale_here"] (defScope s__law_knot) :=
  ⟨rfl, rfl, rfl, by decide +kernel, rfl, by decide +kernel, by decide +kernel⟩
theorem bi__law_knot {K : PySem.W.Frag} {f : Addr} {fd : FuncData}
    (F : Fun K "_law_knot" "_law_knot" s__law_knot f fd) : Binds K fd ["_law_hand_here", "_law_scale_here"] [] :=
  F.binds fun _ _ _ _ _ _ us hl => match us, hl with | [_, _], _ => rfl
abbrev s__law_grid : Stmt := topS 52
theorem sc__law_grid : FnScope ["_law_hand_here", "_law_scale_here", "_law_many", "_law_at", "_law_found", "_law_dense", "_law_bare", "_law_to"] ["_law_hand_here", "_law_scale_here", "_law_many"] (defScope s__law_grid) :=
  ⟨rfl, rfl, rfl, by decide +kernel, rfl, by decide +kernel, by decide +kernel⟩
theorem bi__law_grid {K : PySem.W.Frag} {f : Addr} {fd : FuncData}
    (F : Fun K "_law_grid" "_law_grid" s__law_grid f fd) : Binds K fd ["_law_hand_here", "_law_scale_here", "_law_many"] [] :=
  F.binds fun _ _ _ _ _ _ us hl => match us, hl with | [_, _, _], _ => rfl
abbrev s__law_leads : Stmt := topS 53
theorem sc__law_leads : FnScope ["_law_hand_here", "_law_hues", "_law_left", "_law_hue", "_law_at"] ["_law_hand_here", "_law_hues"] (defScope s__law_leads) :=
  ⟨rfl, rfl, rfl, by decide +kernel, rfl, by decide +kernel, by decide +kernel⟩
theorem bi__law_leads {K : PySem.W.Frag} {f : Addr} {fd : FuncData}
    (F : Fun K "_law_leads" "_law_leads" s__law_leads f fd) : Binds K fd ["_law_hand_here", "_law_hues"] [] :=
  F.binds fun _ _ _ _ _ _ us hl => match us, hl with | [_, _], _ => rfl
abbrev s__law_less : Stmt := topS 54
theorem sc__law_less : FnScope ["_law_scale_here", "_law_here", "_law_there", "_law_mine", "_law_its", "_law_size"] ["_law_scale_here", "_law_here", "_law_there"] (defScope s__law_less) :=
  ⟨rfl, rfl, rfl, by decide +kernel, rfl, by decide +kernel, by decide +kernel⟩
theorem bi__law_less {K : PySem.W.Frag} {f : Addr} {fd : FuncData}
    (F : Fun K "_law_less" "_law_less" s__law_less f fd) : Binds K fd ["_law_scale_here", "_law_here", "_law_there"] [] :=
  F.binds fun _ _ _ _ _ _ us hl => match us, hl with | [_, _, _], _ => rfl
abbrev s__law_tie : Stmt := topS 55
theorem sc__law_tie : FnScope ["_law_scale_here", "_law_here", "_law_there"] ["_law_scale_here", "_law_here", "_law_there"] (defScope s__law_tie) :=
  ⟨rfl, rfl, rfl, by decide +kernel, rfl, by decide +kernel, by decide +kernel⟩
theorem bi__law_tie {K : PySem.W.Frag} {f : Addr} {fd : FuncData}
    (F : Fun K "_law_tie" "_law_tie" s__law_tie f fd) : Binds K fd ["_law_scale_here", "_law_here", "_law_there"] [] :=
  F.binds fun _ _ _ _ _ _ us hl => match us, hl with | [_, _, _], _ => rfl
abbrev s__law_from : Stmt := topS 56
theorem sc__law_from : FnScope ["_law_scale_here", "_law_grid_here", "_law_at", "_law_to"] ["_law_scale_here", "_law_grid_here", "_law_at", "_law_to"] (defScope s__law_from) :=
  ⟨rfl, rfl, rfl, by decide +kernel, rfl, by decide +kernel, by decide +kernel⟩
theorem bi__law_from {K : PySem.W.Frag} {f : Addr} {fd : FuncData}
    (F : Fun K "_law_from" "_law_from" s__law_from f fd) : Binds K fd ["_law_scale_here", "_law_grid_here", "_law_at", "_law_to"] [] :=
  F.binds fun _ _ _ _ _ _ us hl => match us, hl with | [_, _, _, _], _ => rfl
abbrev s__law_called : Stmt := topS 57
theorem sc__law_called : FnScope ["_law_scale_here", "_law_grid_here", "_law_leads_here", "_law_found", "_law_at", "_law_row", "_law_to"] ["_law_scale_here", "_law_grid_here", "_law_leads_here"] (defScope s__law_called) :=
  ⟨rfl, rfl, rfl, by decide +kernel, rfl, by decide +kernel, by decide +kernel⟩
theorem bi__law_called {K : PySem.W.Frag} {f : Addr} {fd : FuncData}
    (F : Fun K "_law_called" "_law_called" s__law_called f fd) : Binds K fd ["_law_scale_here", "_law_grid_here", "_law_leads_here"] [] :=
  F.binds fun _ _ _ _ _ _ us hl => match us, hl with | [_, _, _], _ => rfl
abbrev s__law_stood : Stmt := topS 58
theorem sc__law_stood : FnScope ["_law_scale_here", "_law_grid_here", "_law_at", "_law_says", "_law_to"] ["_law_scale_here", "_law_grid_here", "_law_at"] (defScope s__law_stood) :=
  ⟨rfl, rfl, rfl, by decide +kernel, rfl, by decide +kernel, by decide +kernel⟩
theorem bi__law_stood {K : PySem.W.Frag} {f : Addr} {fd : FuncData}
    (F : Fun K "_law_stood" "_law_stood" s__law_stood f fd) : Binds K fd ["_law_scale_here", "_law_grid_here", "_law_at"] [] :=
  F.binds fun _ _ _ _ _ _ us hl => match us, hl with | [_, _, _], _ => rfl
abbrev s__law_right : Stmt := topS 59
theorem sc__law_right : FnScope ["_law_scale_here", "_law_ground", "_law_grid_here", "_law_its", "_law_pairs", "_law_held", "_law_due", "_law_nth", "_law_far", "_law_knots", "_law_x", "_law_y", "_law_side"] ["_law_scale_here", "_law_ground", "_law_grid_here", "_law_its", "_law_pairs"] (defScope s__law_right) :=
  ⟨rfl, rfl, rfl, by decide +kernel, rfl, by decide +kernel, by decide +kernel⟩
theorem bi__law_right {K : PySem.W.Frag} {f : Addr} {fd : FuncData}
    (F : Fun K "_law_right" "_law_right" s__law_right f fd) : Binds K fd ["_law_scale_here", "_law_ground", "_law_grid_here", "_law_its", "_law_pairs"] [] :=
  F.binds fun _ _ _ _ _ _ us hl => match us, hl with | [_, _, _, _, _], _ => rfl
abbrev s_law : Stmt := topS 60
theorem sc_law : FnScope ["_law_script", "_law_k", "_law_hand_here", "_law_some", "_law_pairs", "_law_scale_here", "_law_colours_here", "_law_ground", "_law_grid_here", "_law_leads_here", "_law_its", "_law_full", "_law_pair", "_law_at", "_law_x", "_law_y"] ["_law_script"] (defScope s_law) :=
  ⟨rfl, rfl, rfl, by decide +kernel, rfl, by decide +kernel, by decide +kernel⟩
theorem bi_law {K : PySem.W.Frag} {f : Addr} {fd : FuncData}
    (F : Fun K "law" "law" s_law f fd) : Binds K fd ["_law_script"] [] :=
  F.binds fun _ _ _ _ _ _ us hl => match us, hl with | [_], _ => rfl
def kgValue_part_of_likeness_other_web_frame : List Value → List Value → List Value
  | [], [w0, w1, w2, w3] => [w3, w2, w1, w0]
  | _, _ => []
def kgV_part_of_likeness_other_web_frame : List V → List V → List V
  | [], [w0, w1, w2, w3] => [w3, w2, w1, w0]
  | _, _ => []
def kgD_part_of_likeness_other_web_frame : List D → List D → List D
  | [], [w0, w1, w2, w3] => [w3, w2, w1, w0]
  | _, _ => []
theorem kb_part_of_likeness_other_web_frame {K : PySem.W.Frag} {f : Addr} {fd : FuncData}
    (F : Fun K "part_of" "part_of" s_part_of f fd) :
    KBinds K fd ["frame", "web", "other", "likeness"] ["likeness", "other", "web", "frame"] kgValue_part_of_likeness_other_web_frame kgV_part_of_likeness_other_web_frame := by
  obtain ⟨oc, od, kV, doc, pm, an, cdv, ct, osl, rfl, lk, hcd⟩ := F.ex
  refine ⟨fun s us ws _ hl => ?_, fun r r0 => ?_⟩
  · match us, ws, hl with
    | [], [_, _, _, _], _ => exact .of_eq rfl
    | _ :: _, _, hl => exact absurd hl (by simp [kgValue_part_of_likeness_other_web_frame])
    | [], [], hl => exact absurd hl (by simp [kgValue_part_of_likeness_other_web_frame])
    | [], [_], hl => exact absurd hl (by simp [kgValue_part_of_likeness_other_web_frame])
    | [], [_, _], hl => exact absurd hl (by simp [kgValue_part_of_likeness_other_web_frame])
    | [], [_, _, _], hl => exact absurd hl (by simp [kgValue_part_of_likeness_other_web_frame])
    | [], _ :: _ :: _ :: _ :: _ :: _, hl => exact absurd hl (by simp [kgValue_part_of_likeness_other_web_frame])
  · cases r with
    | cons _ _ => exact .nil
    | nil =>
      cases r0 with
      | nil => exact .nil
      | cons h0 r1 =>
        cases r1 with
        | nil => exact .nil
        | cons h1 r2 =>
          cases r2 with
          | nil => exact .nil
          | cons h2 r3 =>
            cases r3 with
            | nil => exact .nil
            | cons h3 r4 =>
              cases r4 with
              | nil => exact .cons h3 (.cons h2 (.cons h1 (.cons h0 (.nil))))
              | cons _ _ => exact .nil
theorem kd_part_of_likeness_other_web_frame {K : PySem.W.Frag} (B : Hp) (vs : List V) (ds : List D)
    (r0 : IsAll K B vs ds) : IsAll K B (kgV_part_of_likeness_other_web_frame [] vs) (kgD_part_of_likeness_other_web_frame [] ds) := by
  cases r0 with
  | nil => exact .nil
  | cons h0 r1 =>
    cases r1 with
    | nil => exact .nil
    | cons h1 r2 =>
      cases r2 with
      | nil => exact .nil
      | cons h2 r3 =>
        cases r3 with
        | nil => exact .nil
        | cons h3 r4 =>
          cases r4 with
          | nil => exact .cons h3 (.cons h2 (.cons h1 (.cons h0 (.nil))))
          | cons _ _ => exact .nil
/-! ### what the defs tell -/
def D.whole : D → Bool
  | .int _ => true
  | _ => false
def preWhole (ds : List D) : Prop := ∃ d, ds = [d] ∧ d.own = false
def fWhole : List D → D
  | [d] => .bl (D.whole d)
  | _ => .non
def D.within (a b : Int) : D → Bool
  | .int i => decide (a ≤ i) && decide (i ≤ b)
  | _ => false
def preWithin (ds : List D) : Prop :=
  ∃ d a b, ds = [d, .int a, .int b] ∧ d.own = false
def fWithin : List D → D
  | [d, .int a, .int b] => .bl (D.within a b d)
  | _ => .non
def dints (ns : List Int) : List D := ns.map D.int
def preProd (ds : List D) : Prop :=
  ∃ ns : List Int, ds = [.tup (dints ns)] ∧ ∀ n ∈ ns, 2 ≤ n ∧ n ≤ 5
def D.prod : List D → Int
  | .int i :: r => i * D.prod r
  | _ => 1
def fProd : List D → D
  | [.tup xs] => .int (D.prod xs)
  | _ => .non
def D.meas : D → Bool
  | .tup xs => decide (1 ≤ xs.length) && decide (xs.length ≤ 3) &&
      xs.all (D.within 2 5) && decide (D.prod xs ≤ 30)
  | _ => false
def preMeas (ds : List D) : Prop := ∃ d, ds = [d] ∧ d.plain = true
def fMeas : List D → D
  | [d] => .bl (D.meas d)
  | _ => .non
def preHand (ds : List D) : Prop :=
  ∃ ns k, ds = [.scr ns, .int k] ∧ 0 ≤ k ∧ k ≤ 1000
def preTake (m : Nat) (ds : List D) : Prop :=
  m < 10000000 ∧ ∃ n : Int, ds = [.int n] ∧ 0 < n ∧ n < 2 ^ 60
def psiTake (ds : List D) (m m' : Nat) (d : D) : Prop :=
  m' ≤ m + 1 ∧ ∃ n r : Int, ds = [.int n] ∧ d = .int r ∧ 0 ≤ r ∧ r < n
def preOf (m : Nat) (ds : List D) : Prop :=
  m < 10000000 ∧ ∃ c xs, ds = [c] ∧ c.items = some xs ∧ xs ≠ [] ∧
    xs.length < 1000000
def psiOf (ds : List D) (m m' : Nat) (d : D) : Prop :=
  m' ≤ m + 1 ∧ ∃ c xs, ds = [c] ∧ c.items = some xs ∧ d ∈ xs
theorem plain_own {d : D} (h : d.plain = true) : d.own = false := by
  cases d <;> first | rfl | (simp [D.plain] at h)
theorem plains_mem : ∀ {xs : List D} {x : D}, D.plains xs = true → x ∈ xs →
    x.plain = true
  | y :: ys, x, h, hm => by
    rw [D.plains, Bool.and_eq_true] at h
    rcases List.mem_cons.mp hm with rfl | hm
    · exact h.1
    · exact plains_mem h.2 hm
theorem prod_append (ns : List Int) (n : Int) :
    D.prod (dints (ns ++ [n])) = D.prod (dints ns) * n := by
  induction ns with
  | nil => simp [dints, D.prod]
  | cons a r ih =>
    have e1 : D.prod (dints (a :: r ++ [n])) = a * D.prod (dints (r ++ [n])) := rfl
    have e2 : D.prod (dints (a :: r)) = a * D.prod (dints r) := rfl
    rw [e1, e2, ih, Int.mul_assoc]
theorem prod_take {ns : List Int} {i : Nat} (h : i < ns.length) :
    D.prod (dints (ns.take (i + 1))) = D.prod (dints (ns.take i)) * ns[i] := by
  rw [List.take_add_one, List.getElem?_eq_getElem h]
  exact prod_append _ _
theorem within_len {n : Nat} {b : Bool} (h : D.within 1 3 (.int n) = b) :
    (decide (1 ≤ n) && decide (n ≤ 3)) = b := by
  rw [← h, D.within]
  congr 1
  · simp only [decide_eq_decide]; omega
  · simp only [decide_eq_decide]; omega
theorem prod_pre {xs : List D} (h : xs.all (D.within 2 5) = true) :
    preProd [.tup xs] := by
  have key : ∀ xs : List D, xs.all (D.within 2 5) = true →
      ∃ ns : List Int, xs = dints ns ∧ ∀ n ∈ ns, 2 ≤ n ∧ n ≤ 5 := by
    intro xs
    induction xs with
    | nil => intro _; exact ⟨[], rfl, fun _ z => (nomatch z)⟩
    | cons x r ih =>
      intro h
      rw [List.all_cons, Bool.and_eq_true] at h
      obtain ⟨ns, rfl, hn⟩ := ih h.2
      cases x with
      | int i =>
        have hi := h.1
        rw [D.within, Bool.and_eq_true, decide_eq_true_eq, decide_eq_true_eq] at hi
        refine ⟨i :: ns, rfl, fun n hm => ?_⟩
        rcases List.mem_cons.mp hm with rfl | hm
        · exact hi
        · exact hn n hm
      | _ => simp [D.within] at h
  obtain ⟨ns, rfl, hn⟩ := key xs h
  exact ⟨ns, rfl, hn⟩
theorem in123 (n : Nat) : inV (V.int n) [V.int 1, V.int 2, V.int 3] =
    (decide (1 ≤ n) && decide (n ≤ 3)) := by
  simp only [inV, List.any_cons, List.any_nil, eqV]
  rw [Bool.eq_iff_iff]
  simp only [Bool.or_eq_true, beq_iff_eq, Bool.false_eq_true, or_false,
    Bool.and_eq_true, decide_eq_true_eq]
  omega
theorem in2345 (j : Int) : inV (V.int j) [V.int 2, V.int 3, V.int 4, V.int 5] =
    D.within 2 5 (.int j) := by
  simp only [inV, List.any_cons, List.any_nil, eqV, D.within]
  rw [Bool.eq_iff_iff]
  simp only [Bool.or_eq_true, beq_iff_eq, Bool.false_eq_true, or_false,
    Bool.and_eq_true, decide_eq_true_eq]
  omega
theorem prod_snoc {xs : List D} (h : xs.all (D.within 2 5) = true) (j : Int) :
    D.prod (xs ++ [.int j]) = D.prod xs * j := by
  obtain ⟨ns, e, _⟩ := prod_pre h
  cases e
  have : dints ns ++ [D.int j] = dints (ns ++ [j]) := by simp [dints]
  rw [this]
  exact prod_append ns j
theorem primes_at {i : Int} (h0 : 0 ≤ i) (h1 : i < 7) : ∃ p : Int,
    [D.int 2147483647, .int 2147483629, .int 2147483587, .int 2147483579,
      .int 2147483563, .int 2147483549, .int 2147483543][i.toNat]? =
      some (.int p) ∧ 0 < p ∧ p < 2147483648 := by
  have : i = 0 ∨ i = 1 ∨ i = 2 ∨ i = 3 ∨ i = 4 ∨ i = 5 ∨ i = 6 := by omega
  rcases this with rfl | rfl | rfl | rfl | rfl | rfl | rfl <;>
    exact ⟨_, rfl, by decide, by decide⟩
theorem hand_mul (x : Int) (b : Bool) :
    CMulW (x % 10 ^ 600) (if b then 1 else 0) := by
  have h1 := Int.emod_nonneg x (show (10 : Int) ^ 600 ≠ 0 by decide +kernel)
  have h2 := Int.emod_lt_of_pos x (show (0 : Int) < 10 ^ 600 by decide +kernel)
  refine wide_mul (a := 2000) (b := 1) ?_ (by cases b <;> decide)
    (by decide) (by decide) (by decide)
  have h3 : (10 : Int) ^ 600 ≤ 2 ^ 2000 := by decide +kernel
  omega
theorem hand_is (x y z : Int) (b : Bool) :
    isHand (.lst [.int (x % 10 ^ 600 * if b then 1 else 0),
      .int ((y + z + 97) % 2305843009213693921), .int 0]) := by
  have h1 := Int.emod_nonneg x (show (10 : Int) ^ 600 ≠ 0 by decide +kernel)
  have h2 := Int.emod_lt_of_pos x (show (0 : Int) < 10 ^ 600 by decide +kernel)
  have h3 := Int.emod_nonneg (y + z + 97)
    (show (2305843009213693921 : Int) ≠ 0 by decide)
  have h4 := Int.emod_lt_of_pos (y + z + 97)
    (show (0 : Int) < 2305843009213693921 by decide)
  refine ⟨_, _, rfl, ?_, ?_, h3, by omega⟩
  · cases b
    · rw [if_neg Bool.false_ne_true, Int.mul_zero]; decide
    · rw [if_pos rfl, Int.mul_one]; exact h1
  · cases b
    · rw [if_neg Bool.false_ne_true, Int.mul_zero]; decide +kernel
    · rw [if_pos rfl, Int.mul_one]; exact h2
theorem take_base {s c d : Int} (s1 : 0 ≤ s) (s2 : s < 2 ^ 61) (c1 : 0 ≤ c)
    (c2 : c ≤ 10000000) (d1 : 0 ≤ d) (d2 : d ≤ 10000000) :
    (s + 7919 * c * d + 31).natAbs < 2 ^ 64 := by
  have h1 : 7919 * c * d ≤ 7919 * 10000000 * 10000000 :=
    Int.mul_le_mul (by omega) d2 d1 (by omega)
  have h2 : 0 ≤ 7919 * c * d := Int.mul_nonneg (by omega) d1
  omega
def cutI (ns : List Int) (lo hi : Option Int) : List Int :=
  (ns.drop (HT.sIx ns.length 0 lo)).take
    (HT.sIx ns.length ns.length hi - HT.sIx ns.length 0 lo)
theorem cut_dints (ns : List Int) (lo hi : Option Int) :
    Wt.cutD (dints ns) lo hi = dints (cutI ns lo hi) := by
  unfold Wt.cutD cutI dints
  rw [List.length_map, ← List.map_drop, ← List.map_take]
theorem cutI_len (ns : List Int) (lo hi : Option Int) :
    (cutI ns lo hi).length ≤ ns.length := by
  unfold cutI
  rw [List.length_take, List.length_drop]
  omega
theorem cutI_mem {ns : List Int} {lo hi : Option Int} {n : Int}
    (h : n ∈ cutI ns lo hi) : n ∈ ns :=
  List.mem_of_mem_drop (List.mem_of_mem_take h)
theorem dints_append (as bs : List Int) :
    dints as ++ dints bs = dints (as ++ bs) := (List.map_append ..).symm
theorem dints_length (as : List Int) : (dints as).length = as.length :=
  List.length_map ..
def showsB (d : D) : Bool :=
  itmB 100 2000 d && (!d.py.hasDict || d.noLst)
theorem Shows.of {d : D} (h : showsB d = true) : Shows d := by
  unfold showsB at h
  rw [Bool.and_eq_true] at h
  refine (Itm.of h.1).shows (by omega) (by omega) fun z => ?_
  rw [z] at h
  simpa using h.2
theorem all_true (n : Nat) : (List.replicate n true).all id = true := by
  rw [List.all_replicate]
  simp
def uints : List D → List Int
  | .int i :: r => i :: uints r
  | _ => []
theorem uints_dints (ns : List Int) : uints (dints ns) = ns := by
  induction ns with
  | nil => rfl
  | cons a r ih =>
    show a :: uints (dints r) = _
    rw [ih]
theorem dints_get {ns : List Int} {c : Nat} {d : D}
    (h : (dints ns)[c]? = some d) : ∃ n, ns[c]? = some n ∧ d = .int n := by
  rw [dints, List.getElem?_map] at h
  cases e : ns[c]? with
  | none => rw [e] at h; cases h
  | some t =>
    rw [e] at h
    exact ⟨t, rfl, (Option.some.inj h).symm⟩
theorem dints_rep (n : Nat) (x : Int) : dints (List.replicate n x) =
    List.replicate n (.int x) := List.map_replicate ..
/-! rows of numbers -/
def z3 (f : Int → Int → Int → Int) : List Int → List Int → List Int → List Int
  | x :: xs, y :: ys, z :: zs => f x y z :: z3 f xs ys zs
  | _, _, _ => []
theorem z3_len (f : Int → Int → Int → Int) : ∀ xs ys zs : List Int,
    (z3 f xs ys zs).length = min (min xs.length ys.length) zs.length
  | [], _, _ => by simp [z3]
  | _ :: _, [], _ => by simp [z3]
  | _ :: _, _ :: _, [] => by simp [z3]
  | x :: xs, y :: ys, z :: zs => by
    rw [z3, List.length_cons, z3_len f xs ys zs]
    simp only [List.length_cons]
    omega
theorem z3_get {f : Int → Int → Int → Int} : ∀ {xs ys zs : List Int} {c : Nat}
    {x y z : Int}, xs[c]? = some x → ys[c]? = some y → zs[c]? = some z →
    (z3 f xs ys zs)[c]? = some (f x y z)
  | [], _, _, _, _, _, _, h, _, _ => by simp at h
  | _ :: _, [], _, _, _, _, _, _, h, _ => by simp at h
  | _ :: _, _ :: _, [], _, _, _, _, _, _, h => by simp at h
  | a :: xs, b :: ys, d :: zs, 0, x, y, z, h1, h2, h3 => by
    simp at h1 h2 h3
    subst h1 h2 h3
    rfl
  | a :: xs, b :: ys, d :: zs, c + 1, x, y, z, h1, h2, h3 => by
    simp only [List.getElem?_cons_succ] at h1 h2 h3
    rw [z3, List.getElem?_cons_succ]
    exact z3_get h1 h2 h3
theorem zw_get {f : Int → Int → Int} {xs ys : List Int} {c : Nat} {x y : Int}
    (h1 : xs[c]? = some x) (h2 : ys[c]? = some y) :
    (List.zipWith f xs ys)[c]? = some (f x y) := by
  rw [List.getElem?_zipWith, h1, h2]
theorem take_snoc {α : Type} {xs : List α} {c : Nat} {x : α}
    (h : xs[c]? = some x) : xs.take (c + 1) = xs.take c ++ [x] := by
  rw [List.take_add_one, h]; rfl
theorem dints_snoc (xs : List Int) (x : Int) :
    dints xs ++ [D.int x] = dints (xs ++ [x]) := dints_append xs [x]
/-- one of two of the same length has an item where the other has -/
theorem get_of_len {α β : Type} {xs : List α} {ys : List β} {c : Nat} {x : α}
    (h : xs.length ≤ ys.length) (hx : xs[c]? = some x) :
    ∃ y, ys[c]? = some y := by
  have := (List.getElem?_eq_some_iff.mp hx).1
  exact ⟨ys[c]'(by omega), List.getElem?_eq_getElem _⟩
theorem ext_of_get {α : Type} {xs ys : List α} (hl : xs.length = ys.length)
    (h : ∀ (c : Nat) x y, xs[c]? = some x → ys[c]? = some y → x = y) : xs = ys := by
  apply List.ext_getElem hl
  intro c h1 h2
  exact h c _ _ (List.getElem?_eq_getElem h1) (List.getElem?_eq_getElem h2)
section
variable {K : PySem.W.Frag} {l : Option Addr} {ρ : Ro} {m : Nat}
variable {Φ : Nat → D → Prop} {te tl : TE} {tA : TA}
/-- a row of numbers, made of three rows item by item -/
theorem e_lcZ3i {f : Int → Int → Int → Int} {i j k : Nat}
    (hi : ρ[i]? = some none) (hj : ρ[j]? = some none)
    (hk : ρ[k]? = some none) (hij : i ≠ j) (hik : i ≠ k) (hjk : j ≠ k)
    (h : AvC K l tA ρ m fun m1 as => ∃ xs ys zs : List Int,
      as = [.tup (dints xs), .tup (dints ys), .tup (dints zs)] ∧
      xs.length ≤ 50000 ∧
      (∀ (c : Nat) x y z, xs[c]? = some x → ys[c]? = some y → zs[c]? = some z →
        EvC K l te (((ρ.set i (some (.dat (.int x)))).set j
          (some (.dat (.int y)))).set k (some (.dat (.int z)))) m1
          fun n2 d => n2 = m1 ∧ d = .int (f x y z)) ∧
      Φ m1 (.lst (dints (z3 f xs ys zs)))) :
    EvC K l (tLc (iZip3 K tA) (g3 K i j k) tYes te [i, j, k]) ρ m Φ := by
  refine e_lcZ3 hi hj hk hij hik hjk (a_imp h fun m1 as q => ?_)
  obtain ⟨xs, ys, zs, rfl, hl, hb, hq⟩ := q
  refine ⟨_, _, _, rfl, by rw [dints_length]; exact hl, fun c n acc =>
    n = m1 ∧ acc = dints ((z3 f xs ys zs).take c), ⟨rfl, rfl⟩, ?_, ?_⟩
  · intro c n acc d e g h1 h2 h3 hI _
    obtain ⟨rfl, rfl⟩ := hI
    obtain ⟨x, e1, rfl⟩ := dints_get h1
    obtain ⟨y, e2, rfl⟩ := dints_get h2
    obtain ⟨z, e3, rfl⟩ := dints_get h3
    refine e_imp (hb c x y z e1 e2 e3) fun n2 d q => ?_
    obtain ⟨rfl, rfl⟩ := q
    exact ⟨rfl, by rw [take_snoc (z3_get e1 e2 e3), dints_snoc]⟩
  · intro n acc _ hI
    obtain ⟨rfl, rfl⟩ := hI
    rw [dints_length, dints_length, dints_length, ← z3_len f,
      List.take_length]
    exact hq
theorem e_lcZi {f : Int → Int → Int} {i j : Nat}
    (hi : ρ[i]? = some none) (hj : ρ[j]? = some none) (hij : i ≠ j)
    (h : AvC K l tA ρ m fun m1 as => ∃ xs ys : List Int,
      as = [.tup (dints xs), .tup (dints ys)] ∧ xs.length ≤ 50000 ∧
      (∀ (c : Nat) x y, xs[c]? = some x → ys[c]? = some y →
        EvC K l te ((ρ.set i (some (.dat (.int x)))).set j
          (some (.dat (.int y)))) m1 fun n2 d => n2 = m1 ∧ d = .int (f x y)) ∧
      Φ m1 (.lst (dints (List.zipWith f xs ys)))) :
    EvC K l (tLc (RZ.iZipA K tA) (g2 K i j) tYes te [i, j]) ρ m Φ := by
  refine e_lcZ hi hj hij (a_imp h fun m1 as q => ?_)
  obtain ⟨xs, ys, rfl, hl, hb, hq⟩ := q
  refine ⟨_, _, rfl, by rw [dints_length]; exact hl, fun c n acc =>
    n = m1 ∧ acc = dints ((List.zipWith f xs ys).take c), ⟨rfl, rfl⟩, ?_, ?_⟩
  · intro c n acc d e h1 h2 hI _
    obtain ⟨rfl, rfl⟩ := hI
    obtain ⟨x, e1, rfl⟩ := dints_get h1
    obtain ⟨y, e2, rfl⟩ := dints_get h2
    refine e_imp (hb c x y e1 e2) fun n2 d q => ?_
    obtain ⟨rfl, rfl⟩ := q
    exact ⟨rfl, by rw [take_snoc (zw_get e1 e2), dints_snoc]⟩
  · intro n acc _ hI
    obtain ⟨rfl, rfl⟩ := hI
    rw [dints_length, dints_length, ← List.length_zipWith (f := f),
      List.take_length]
    exact hq
theorem e_lcTi {f : Int → Int} {i : Nat} (hi : ρ[i]? = some none)
    (h : EvC K l tl ρ m fun m1 x => ∃ xs : List Int, x = .tup (dints xs) ∧
      xs.length ≤ 50000 ∧
      (∀ (c : Nat) x, xs[c]? = some x →
        EvC K l te (ρ.set i (some (.dat (.int x)))) m1
          fun n2 d => n2 = m1 ∧ d = .int (f x)) ∧
      Φ m1 (.lst (dints (xs.map f)))) :
    EvC K l (tLc (iTup K tl) (gName i) tYes te [i]) ρ m Φ := by
  refine e_lcT hi (e_imp h fun m1 x q => ?_)
  obtain ⟨xs, rfl, hl, hb, hq⟩ := q
  refine ⟨_, rfl, by rw [dints_length]; exact hl, fun c n acc =>
    n = m1 ∧ acc = dints ((xs.map f).take c), ⟨rfl, rfl⟩, ?_, ?_⟩
  · intro c n acc d h1 hI _
    obtain ⟨rfl, rfl⟩ := hI
    obtain ⟨x, e1, rfl⟩ := dints_get h1
    refine e_imp (hb c x e1) fun n2 d q => ?_
    obtain ⟨rfl, rfl⟩ := q
    refine ⟨rfl, ?_⟩
    rw [take_snoc (x := f x) (by rw [List.getElem?_map, e1]; rfl), dints_snoc]
  · intro n acc _ hI
    obtain ⟨rfl, rfl⟩ := hI
    rw [dints_length, ← List.length_map (f := f), List.take_length]
    exact hq
end
/-! measures and ties -/
def MsP (ms : List Int) : Prop :=
  1 ≤ ms.length ∧ ms.length ≤ 3 ∧ ∀ m ∈ ms, 2 ≤ m ∧ m ≤ 5
def msB (ms : List Int) : Bool := decide (1 ≤ ms.length) &&
  decide (ms.length ≤ 3) && ms.all fun m => decide (2 ≤ m) && decide (m ≤ 5)
theorem MsP.of {ms : List Int} (h : msB ms = true) : MsP ms := by
  unfold msB at h
  simp only [Bool.and_eq_true, decide_eq_true_eq, List.all_eq_true] at h
  exact ⟨h.1.1, h.1.2, h.2⟩
def TieP (ms t : List Int) : Prop := t.length = ms.length ∧
  ∀ (c : Nat) (m x : Int), ms[c]? = some m → t[c]? = some x → 0 ≤ x ∧ x < m
theorem num_int {i : Int} (h1 : -10000 ≤ i) (h2 : i ≤ 10000) :
    Num 0 15 (.int i) := ⟨itm_int h1 h2, rfl⟩
theorem num_row {ns : List Int} {k : Nat} (hl : ns.length ≤ k)
    (h : ∀ n ∈ ns, -10000 ≤ n ∧ n ≤ 10000) :
    Num 1 (16 * k) (.tup (dints ns)) := by
  refine (Num.tup (k := 0) (w := 15) fun x hx => ?_).up (by omega) ?_
  · obtain ⟨n, hn, rfl⟩ := List.mem_map.mp hx
    exact num_int (h n hn).1 (h n hn).2
  · rw [dints_length]
    exact Nat.mul_le_mul_left 16 hl
theorem MsP.num {ms : List Int} (h : MsP ms) :
    Num 1 48 (.tup (dints ms)) :=
  num_row (k := 3) h.2.1 fun n hn => by have := h.2.2 n hn; omega
theorem TieP.bd {ms t : List Int} (h : TieP ms t) (hm : MsP ms) :
    ∀ x ∈ t, 0 ≤ x ∧ x ≤ 4 := by
  intro x hx
  obtain ⟨c, hc⟩ := List.getElem?_of_mem hx
  obtain ⟨m, e⟩ := get_of_len (Nat.le_of_eq h.1) hc
  have h1 := h.2 c m x e hc
  have h2 := hm.2.2 m (List.mem_of_getElem? e)
  omega
theorem TieP.num {ms t : List Int} (h : TieP ms t) (hm : MsP ms) :
    Num 1 48 (.tup (dints t)) :=
  num_row (k := 3) (by rw [h.1]; exact hm.2.1) fun n hn => by
    have := h.bd hm n hn; omega
def preMs1 (ds : List D) : Prop := ∃ ms, ds = [.tup (dints ms)] ∧ MsP ms
def fNou : List D → D
  | [.tup xs] => .tup (dints (List.replicate xs.length 0))
  | _ => .non
theorem tieP_of {ms t : List Int} (hm : MsP ms) (hl : t.length = ms.length)
    (h : ∀ (c : Nat) m x, ms[c]? = some m → t[c]? = some x → ∃ y, x = y % m) :
    TieP ms t := by
  refine ⟨hl, fun c m x h1 h2 => ?_⟩
  obtain ⟨y, rfl⟩ := h c m x h1 h2
  have := hm.2.2 m (List.mem_of_getElem? h1)
  exact ⟨Int.emod_nonneg _ (by omega), Int.emod_lt_of_pos _ (by omega)⟩
theorem rep_tie {ms : List Int} (hm : MsP ms) :
    TieP ms (List.replicate ms.length 0) := by
  refine ⟨by simp, fun c m x h1 h2 => ?_⟩
  have := hm.2.2 m (List.mem_of_getElem? h1)
  rw [List.getElem?_replicate] at h2
  split at h2
  · cases h2; omega
  · cases h2
def preTT (ds : List D) : Prop := ∃ ms a b,
  ds = [.tup (dints ms), .tup (dints a), .tup (dints b)] ∧ MsP ms ∧
  TieP ms a ∧ TieP ms b
def sumF (ms a b : List Int) : List Int :=
  z3 (fun x y m => (x + y) % m) a b ms
def lessF (ms a b : List Int) : List Int :=
  z3 (fun x y m => (x - y) % m) a b ms
def fSum : List D → D
  | [.tup ms, .tup a, .tup b] => .tup (dints (sumF (uints ms) (uints a) (uints b)))
  | _ => .non
def fLess : List D → D
  | [.tup ms, .tup a, .tup b] => .tup (dints (lessF (uints ms) (uints a) (uints b)))
  | _ => .non
theorem sum_tie {ms a b : List Int} (hm : MsP ms) (ha : TieP ms a)
    (hb : TieP ms b) : TieP ms (sumF ms a b) := by
  have h1 := ha.1
  have h2 := hb.1
  have hl : (sumF ms a b).length = ms.length := by
    unfold sumF; rw [z3_len]; omega
  refine tieP_of hm hl fun c m x em ex => ?_
  obtain ⟨p, ep⟩ := get_of_len (ys := a) (by omega) em
  obtain ⟨q, eq⟩ := get_of_len (ys := b) (by omega) em
  unfold sumF at ex
  rw [z3_get ep eq em] at ex
  exact ⟨_, (Option.some.inj ex).symm⟩
theorem less_tie {ms a b : List Int} (hm : MsP ms) (ha : TieP ms a)
    (hb : TieP ms b) : TieP ms (lessF ms a b) := by
  have h1 := ha.1
  have h2 := hb.1
  have hl : (lessF ms a b).length = ms.length := by
    unfold lessF; rw [z3_len]; omega
  refine tieP_of hm hl fun c m x em ex => ?_
  obtain ⟨p, ep⟩ := get_of_len (ys := a) (by omega) em
  obtain ⟨q, eq⟩ := get_of_len (ys := b) (by omega) em
  unfold lessF at ex
  rw [z3_get ep eq em] at ex
  exact ⟨_, (Option.some.inj ex).symm⟩
def preTimes (ds : List D) : Prop := ∃ ms t n,
  ds = [.tup (dints ms), .tup (dints t), .int n] ∧ MsP ms ∧ TieP ms t
def timesF (ms t : List Int) (n : Int) : List Int :=
  List.zipWith (fun x m => x * n % m) t ms
def fTimes : List D → D
  | [.tup ms, .tup t, .int n] => .tup (dints (timesF (uints ms) (uints t) n))
  | _ => .non
theorem times_len {ms t : List Int} (h : TieP ms t) (n : Int) :
    (timesF ms t n).length = ms.length := by
  unfold timesF
  rw [List.length_zipWith, h.1, Nat.min_self]
theorem times_get {ms t : List Int} {n m x : Int} {c : Nat}
    (h1 : ms[c]? = some m) (h2 : t[c]? = some x) :
    (timesF ms t n)[c]? = some (x * n % m) := zw_get h2 h1
theorem times_tie {ms t : List Int} (hm : MsP ms) (h : TieP ms t) (n : Int) :
    TieP ms (timesF ms t n) := by
  refine tieP_of hm (times_len h n) fun c m x h1 h2 => ?_
  obtain ⟨y, e⟩ := get_of_len (Nat.le_of_eq h.1.symm) h1
  rw [times_get h1 e] at h2
  exact ⟨_, (Option.some.inj h2).symm⟩
def preOrd (ds : List D) : Prop := ∃ ms t,
  ds = [.tup (dints ms), .tup (dints t)] ∧ MsP ms ∧ TieP ms t
def ordFrom (p : Nat → Bool) : Nat → Nat → Nat
  | 0, k => k
  | f + 1, k => if p k = true then k else ordFrom p f (k + 1)
def zeroAt (ms t : List Int) (k : Nat) : Bool :=
  timesF ms t k == List.replicate ms.length 0
def ordF (ms t : List Int) : Nat := ordFrom (zeroAt ms t) 60 1
def fOrd : List D → D
  | [.tup ms, .tup t] => .int (ordF (uints ms) (uints t))
  | _ => .non
theorem ordFrom_is {p : Nat → Bool} : ∀ {f k k0 : Nat}, k ≤ k0 →
    k0 ≤ k + f → p k0 = true → (∀ j, k ≤ j → j < k0 → p j = false) →
    ordFrom p f k = k0
  | 0, k, k0, h1, h2, _, _ => by
    have : k = k0 := by omega
    rw [ordFrom, this]
  | f + 1, k, k0, h1, h2, h3, h4 => by
    rw [ordFrom]
    by_cases e : k = k0
    · subst e
      rw [if_pos h3]
    · rw [h4 k (Nat.le_refl _) (by omega), if_neg Bool.false_ne_true]
      exact ordFrom_is (by omega) (by omega) h3 fun j a b => h4 j (by omega) b
theorem zero60 {ms t : List Int} (hm : MsP ms) (h : TieP ms t) :
    zeroAt ms t 60 = true := by
  unfold zeroAt
  rw [beq_iff_eq]
  refine ext_of_get (by rw [times_len h]; simp) fun c x y h1 h2 => ?_
  obtain ⟨m, em⟩ := get_of_len (Nat.le_of_eq (times_len h _)) h1
  obtain ⟨z, ez⟩ := get_of_len (Nat.le_of_eq h.1.symm) em
  rw [times_get em ez] at h1
  rw [List.getElem?_replicate] at h2
  split at h2
  · cases h2
    cases h1
    have := hm.2.2 m (List.mem_of_getElem? em)
    have : m = 2 ∨ m = 3 ∨ m = 4 ∨ m = 5 := by omega
    rcases this with rfl | rfl | rfl | rfl <;> omega
  · cases h2
theorem ordFrom_bd (p : Nat → Bool) : ∀ f k, k ≤ ordFrom p f k ∧
    ordFrom p f k ≤ k + f
  | 0, k => by rw [ordFrom]; omega
  | f + 1, k => by
    rw [ordFrom]
    split
    · omega
    · have := ordFrom_bd p f (k + 1)
      omega
theorem ord_bd (ms t : List Int) : 1 ≤ ordF ms t ∧ ordF ms t ≤ 61 := by
  have := ordFrom_bd (zeroAt ms t) 60 1
  exact ⟨this.1, this.2⟩
def MsQ (ms : List Int) : Prop := MsP ms ∧ D.prod (dints ms) ≤ 30
def preSc (m : Nat) (ds : List D) : Prop := m < 9000000 ∧ ds = []
def psiSc (ds : List D) (m m' : Nat) (d : D) : Prop :=
  m' ≤ m + 1 ∧ ∃ ms, MsQ ms ∧ d = .tup (dints ms)
def preKn (m : Nat) (ds : List D) : Prop := m < 8000000 ∧ preMs1 ds
def psiKn (ds : List D) (m m' : Nat) (d : D) : Prop :=
  m' ≤ m + 3 ∧ ∃ ms t, ds = [.tup (dints ms)] ∧ TieP ms t ∧ d = .tup (dints t)
def scaleB : D → Bool
  | .tup xs => msB (uints xs) && (xs.all fun x => match x with | .int _ => true | _ => false)
  | _ => false
theorem scale_of {d : D} (h : scaleB d = true) :
    ∃ ms, MsP ms ∧ d = .tup (dints ms) := by
  cases d with
  | tup xs =>
    unfold scaleB at h
    rw [Bool.and_eq_true] at h
    refine ⟨uints xs, MsP.of h.1, ?_⟩
    have q := h.2
    clear h
    induction xs with
    | nil => rfl
    | cons x r ih =>
      rw [List.all_cons, Bool.and_eq_true] at q
      cases x with
      | int i =>
        have := ih q.2
        rw [D.tup.injEq] at this ⊢
        rw [uints, dints, List.map_cons, ← dints, ← this]
      | _ => simp at q
  | _ => simp [scaleB] at h
theorem scales14 {d : D} (h : d ∈ ([.tup (dints [2]), .tup (dints [4, 2]),
    .tup (dints [3]), .tup (dints [4]), .tup (dints [5]), .tup (dints [2, 2]),
    .tup (dints [2, 4, 3]), .tup (dints [3, 2]), .tup (dints [5, 5]),
    .tup (dints [2, 2, 2]), .tup (dints [3, 3]), .tup (dints [4, 5]),
    .tup (dints [2, 3, 5]), .tup (dints [5, 3, 2])] : List D)) :
    ∃ ms, MsP ms ∧ D.prod (dints ms) ≤ 30 ∧ d = .tup (dints ms) := by
  have key : ∀ ms : List Int, msB ms = true → D.prod (dints ms) ≤ 30 →
      ∃ ms', MsP ms' ∧ D.prod (dints ms') ≤ 30 ∧ D.tup (dints ms) = .tup (dints ms') :=
    fun ms h1 h2 => ⟨ms, MsP.of h1, h2, rfl⟩
  simp only [List.mem_cons, List.not_mem_nil, or_false] at h
  rcases h with rfl | rfl | rfl | rfl | rfl | rfl | rfl | rfl | rfl | rfl | rfl | rfl | rfl | rfl <;>
    exact key _ rfl (by decide)
/-! frames -/
def HuP (hs : List Int) : Prop :=
  2 ≤ hs.length ∧ hs.length ≤ 16 ∧ ∀ n ∈ hs, 0 ≤ n ∧ n ≤ 9
def D.huesB : D → Bool
  | .tup xs => decide (2 ≤ xs.length) && decide (xs.length ≤ 16) &&
      xs.all (D.within 0 9)
  | _ => false
def fHue : List D → D
  | [d] => .bl (D.within 0 9 d)
  | _ => .non
def fHues : List D → D
  | [d] => .bl (D.huesB d)
  | _ => .non
abbrev frD (C : Addr) (ms hs : List Int) : D :=
  .ins C ["measure", "hues"] [.tup (dints ms), .tup (dints hs)]
def preFrame (ds : List D) : Prop := ∃ ms hs,
  ds = [.tup (dints ms), .tup (dints hs)] ∧ MsQ ms ∧ HuP hs
theorem within_all {ns : List Int} {a b : Int} (h : ∀ n ∈ ns, a ≤ n ∧ n ≤ b) :
    (dints ns).all (D.within a b) = true := by
  rw [dints, List.all_map, List.all_eq_true]
  intro n hn
  have := h n hn
  simp [D.within, this.1, this.2]
theorem meas_of {ms : List Int} (h : MsQ ms) :
    D.meas (.tup (dints ms)) = true := by
  rw [D.meas, within_all h.1.2.2, dints_length, decide_eq_true h.1.1,
    decide_eq_true h.1.2.1, decide_eq_true h.2]
  rfl
theorem hues_of {hs : List Int} (h : HuP hs) :
    D.huesB (.tup (dints hs)) = true := by
  rw [D.huesB, within_all h.2.2, dints_length, decide_eq_true h.1,
    decide_eq_true h.2.1]
  rfl
theorem plain_ints (ns : List Int) : (D.tup (dints ns)).plain = true := by
  rw [D.plain, plains_all, List.all_eq_true]
  intro x hx
  obtain ⟨n, _, rfl⟩ := List.mem_map.mp hx
  rfl
theorem HuP.num {hs : List Int} (h : HuP hs) :
    Num 1 256 (.tup (dints hs)) :=
  num_row (k := 16) h.2.1 fun n hn => by have := h.2.2 n hn; omega
/-! tables -/
abbrev dtab (T : List (List (List Int))) : D :=
  .tup (T.map fun r => .tup (r.map fun t => .tup (dints t)))
def TabP (ms : List Int) (n : Nat) (T : List (List (List Int))) : Prop :=
  T.length = n ∧ ∀ (i : Nat) r, T[i]? = some r → r.length = i ∧
    ∀ t ∈ r, TieP ms t
def dsub : D → Nat → Option D
  | .tup xs, n => xs[n]?
  | _, _ => none
theorem TabP.num {ms : List Int} {n : Nat} {T : List (List (List Int))}
    (hM : MsP ms) (hn : n ≤ 16) (h : TabP ms n T) :
    Num 3 16000 (dtab T) := by
  refine (Num.tup (k := 2) (w := 900) fun x hx => ?_).up (by omega) ?_
  · obtain ⟨r, hr, rfl⟩ := List.mem_map.mp hx
    obtain ⟨i, hi⟩ := List.getElem?_of_mem hr
    have h1 := h.2 i r hi
    have hi2 := (List.getElem?_eq_some_iff.mp hi).1
    refine (Num.tup (k := 1) (w := 48) fun y hy => ?_).up (by omega) ?_
    · obtain ⟨t, ht, rfl⟩ := List.mem_map.mp hy
      exact (h1.2 t ht).num hM
    · rw [List.length_map, h1.1]
      have := h.1
      omega
  · rw [List.length_map, h.1]
    omega
theorem TabP.at {ms : List Int} {n : Nat} {T : List (List (List Int))}
    (h : TabP ms n T) {i j : Nat} (hi : i < n) (hj : j < i) :
    ∃ r t, T[i]? = some r ∧ r[j]? = some t ∧ TieP ms t := by
  have hl := h.1
  obtain ⟨r, hr⟩ : ∃ r, T[i]? = some r := ⟨T[i]'(by omega), List.getElem?_eq_getElem _⟩
  have h1 := h.2 i r hr
  obtain ⟨t, ht⟩ : ∃ t, r[j]? = some t := ⟨r[j]'(by omega), List.getElem?_eq_getElem _⟩
  exact ⟨r, t, hr, ht, h1.2 t (List.mem_of_getElem? ht)⟩
theorem dtab_sub {T : List (List (List Int))} {i : Nat} {r : List (List Int)}
    (h : T[i]? = some r) : dsub (dtab T) i =
      some (.tup (r.map fun t => .tup (dints t))) := by
  rw [dtab, dsub, List.getElem?_map, h]; rfl
theorem drow_sub {r : List (List Int)} {j : Nat} {t : List Int}
    (h : r[j]? = some t) : dsub (D.tup (r.map fun t => .tup (dints t))) j =
      some (.tup (dints t)) := by
  rw [dsub, List.getElem?_map, h]; rfl
/-! readings of a table -/
def mxI (i j : Int) : Int := if j > i then j else i
def mnI (i j : Int) : Int := if j < i then j else i
def preTab (ds : List D) : Prop := ∃ t i j r d, ds = [t, .int i, .int j] ∧
  0 ≤ i ∧ 0 ≤ j ∧ dsub t (mxI i j).toNat = some r ∧
  dsub r (mnI i j).toNat = some d
def tabAt (t : D) (i j : Int) : D :=
  ((dsub t (mxI i j).toNat).bind fun r => dsub r (mnI i j).toNat).getD .non
def fTab : List D → D
  | [t, .int i, .int j] => tabAt t i j
  | _ => .non
def preWeb (C : Addr) (ds : List D) : Prop := ∃ ms hs t i j x,
  ds = [frD C ms hs, t, .int i, .int j] ∧ MsP ms ∧ 0 ≤ i ∧ 0 ≤ j ∧
  (dsub t (mxI i j).toNat).bind (fun r => dsub r (mnI i j).toNat) =
    some (.tup (dints x)) ∧ TieP ms x
def negF (ms x : List Int) : List Int :=
  lessF ms (List.replicate ms.length 0) x
def webAt (ms : List Int) (t : D) (i j : Int) : D :=
  if i > j then tabAt t i j else
    match tabAt t i j with
    | .tup x => .tup (dints (negF ms (uints x)))
    | _ => .non
def fWeb : List D → D
  | [.ins _ _ [.tup ms, _], t, .int i, .int j] => webAt (uints ms) t i j
  | _ => .non
/-! drawn colours, drawn tables -/
def preCol (m : Nat) (ds : List D) : Prop := m < 7000000 ∧ ∃ z : Int,
  ds = [.int z] ∧ 2 ≤ z ∧ z ≤ 16
def psiCol (ds : List D) (m m' : Nat) (d : D) : Prop :=
  m' ≤ m + 20 ∧ ∃ hs z, ds = [.int z] ∧ d = .tup (dints hs) ∧ HuP hs ∧
    (hs.length : Int) ≤ z
def preGrid (m : Nat) (ds : List D) : Prop := m < 7000000 ∧ ∃ ms n,
  ds = [.tup (dints ms), .int n] ∧ MsP ms ∧ 0 ≤ n ∧ n ≤ 16
def psiGrid (ds : List D) (m m' : Nat) (d : D) : Prop :=
  m' ≤ m + 2000 ∧ ∃ ms n T, ds = [.tup (dints ms), .int n] ∧
    TabP ms n.toNat T ∧ d = dtab T
theorem TieP.snoc {ms t : List Int} {z r : Int} (hb : ∀ (c : Nat) (z x : Int),
      ms[c]? = some z → t[c]? = some x → 0 ≤ x ∧ x < z)
    (ez : ms[t.length]? = some z) (q2 : 0 ≤ r) (q3 : r < z) :
    ∀ (c : Nat) (z x : Int), ms[c]? = some z → (t ++ [r])[c]? = some x →
      0 ≤ x ∧ x < z := by
  intro c z' x e1 e2
  by_cases hc : c < t.length
  · rw [List.getElem?_append_left hc] at e2
    exact hb c z' x e1 e2
  · have hc2 : c = t.length := by
      have := (List.getElem?_eq_some_iff.mp e2).1
      simp at this
      omega
    subst hc2
    rw [List.getElem?_append_right (Nat.le_refl _)] at e2
    simp at e2
    subst e2
    rw [ez] at e1
    cases e1
    exact ⟨q2, q3⟩
theorem dints_inj {a b : List Int} (h : dints a = dints b) : a = b := by
  have := congrArg uints h
  rwa [uints_dints, uints_dints] at this
theorem tup_inj {a b : List Int} (h : D.tup (dints a) = .tup (dints b)) :
    a = b := dints_inj (D.tup.inj h)
/-! places -/
abbrev dsays (S : List (List Int)) : D := .tup (S.map fun t => .tup (dints t))
def usays : D → List (List Int)
  | .tup xs => xs.map fun d => match d with
    | .tup ys => uints ys
    | _ => []
  | _ => []
theorem usays_dsays (S : List (List Int)) : usays (dsays S) = S := by
  rw [dsays, usays, List.map_map]
  conv => rhs; rw [← List.map_id S]
  apply List.map_congr_left
  intro t _
  exact uints_dints t
abbrev dplace (a : Nat) (S : List (List Int)) : D := .tup [.int a, dsays S]
structure PlP (ms : List Int) (n a : Nat) (S : List (List Int)) : Prop where
  lt : a < n
  len : S.length = n
  tie : ∀ t ∈ S, TieP ms t
  own : S[a]? = some (List.replicate ms.length 0)
theorem dsays_get {S : List (List Int)} {c : Nat} {t : List Int}
    (h : S[c]? = some t) :
    (S.map fun t => D.tup (dints t))[c]? = some (.tup (dints t)) := by
  rw [List.getElem?_map, h]; rfl
theorem says_get {S : List (List Int)} {n c : Nat} (hl : S.length = n)
    (hc : c < n) : ∃ t, S[c]? = some t :=
  ⟨S[c]'(by omega), List.getElem?_eq_getElem _⟩
theorem getD_of {S : List (List Int)} {c : Nat} {t : List Int}
    (h : S[c]? = some t) : S.getD c [] = t := by
  rw [List.getD_eq_getElem?_getD, h]; rfl
def ptF (ms : List Int) (a : Nat) (S : List (List Int)) (b : Nat)
    (U : List (List Int)) : D :=
  if a = b then .non else .tup (dints (lessF ms (S.getD b []) (U.getD a [])))
def prePt (C : Addr) (ds : List D) : Prop := ∃ (ms hs : List Int)
  (n a b : Nat) (S U : List (List Int)),
  ds = [frD C ms hs, dplace a S, dplace b U] ∧ MsP ms ∧ a < n ∧ b < n ∧
  S.length = n ∧ U.length = n ∧ (∀ t ∈ S, TieP ms t) ∧ ∀ t ∈ U, TieP ms t
def fPt : List D → D
  | [.ins _ _ [.tup ms, _], .tup [.int a, s], .tup [.int b, u]] =>
    ptF (uints ms) a.toNat (usays s) b.toNat (usays u)
  | _ => .non
theorem fPt_is (C : Addr) (ms hs : List Int) (a b : Nat)
    (S U : List (List Int)) : fPt [frD C ms hs, dplace a S, dplace b U] =
      ptF ms a S b U := by
  show ptF (uints (dints ms)) (a : Int).toNat (usays (dsays S)) (b : Int).toNat
    (usays (dsays U)) = _
  rw [uints_dints, usays_dsays, usays_dsays, Int.toNat_natCast, Int.toNat_natCast]
def preSpot (m : Nat) (ds : List D) : Prop := m < 6000000 ∧
  ∃ (ms : List Int) (n a : Nat), ds = [.tup (dints ms), .int n, .int a] ∧
    MsP ms ∧ a < n ∧ n ≤ 17
def psiSpot (ds : List D) (m m' : Nat) (d : D) : Prop := m' ≤ m + 60 ∧
  ∃ (ms : List Int) (n a : Nat) (S : List (List Int)),
    ds = [.tup (dints ms), .int n, .int a] ∧ PlP ms n a S ∧ d = dplace a S
theorem args3 {ms ms' : List Int} {n n' a a' : Nat}
    (h : [D.tup (dints ms), D.int n, D.int a] =
      [.tup (dints ms'), .int n', .int a']) : ms = ms' ∧ n = n' ∧ a = a' := by
  have h1 := tup_inj (List.cons.inj h).1
  have h2 := D.int.inj (List.cons.inj (List.cons.inj h).2).1
  have h3 := D.int.inj (List.cons.inj (List.cons.inj (List.cons.inj h).2).2).1
  exact ⟨h1, by omega, by omega⟩
def preR0 (m : Nat) (ds : List D) : Prop := m = 0 ∧ ds = []
def psiR0 (ds : List D) (m m' : Nat) (d : D) : Prop := d = .bl true
def preLaw0 (ds : List D) : Prop := ∃ ns, ds = [.scr ns]
theorem num_place {ms : List Int} {n a : Nat} {S : List (List Int)}
    (hM : MsP ms) (hn : n ≤ 17) (ha : a < n) (hl : S.length = n)
    (ht : ∀ t ∈ S, TieP ms t) : Num 3 1700 (dplace a S) := by
  have h1 : Num 2 833 (dsays S) := by
    refine (Num.tup (k := 1) (w := 48) fun x hx => ?_).up (by omega) ?_
    · obtain ⟨t, h, rfl⟩ := List.mem_map.mp hx
      exact (ht t h).num hM
    · rw [List.length_map]; omega
  refine (Num.tup (k := 2) (w := 833) fun x hx => ?_).up (by omega) (by simp)
  simp only [List.mem_cons, List.not_mem_nil, or_false] at hx
  rcases hx with rfl | rfl
  · exact (num_int (by omega) (by omega)).up (by omega) (by omega)
  · exact h1

/-! what a call asks and tells, in one step -/
theorem pNou {ms : List Int} (hM : MsP ms) : preMs1 [.tup (dints ms)] :=
  ⟨ms, rfl, hM⟩
theorem fNou_is (ms : List Int) : fNou [.tup (dints ms)] =
    .tup (dints (List.replicate ms.length 0)) := by rw [fNou, dints_length]
theorem pTT {ms a b : List Int} (hM : MsP ms) (ha : TieP ms a)
    (hb : TieP ms b) : preTT [.tup (dints ms), .tup (dints a), .tup (dints b)] :=
  ⟨ms, a, b, rfl, hM, ha, hb⟩
theorem fSum_is (ms a b : List Int) :
    fSum [.tup (dints ms), .tup (dints a), .tup (dints b)] =
      .tup (dints (sumF ms a b)) := by
  rw [fSum, uints_dints, uints_dints, uints_dints]
theorem fLess_is (ms a b : List Int) :
    fLess [.tup (dints ms), .tup (dints a), .tup (dints b)] =
      .tup (dints (lessF ms a b)) := by
  rw [fLess, uints_dints, uints_dints, uints_dints]
theorem pPt {C : Addr} {ms hs : List Int} {n a b : Nat}
    {S U : List (List Int)} (hM : MsP ms) (h1 : PlP ms n a S)
    (h2 : PlP ms n b U) : prePt C [frD C ms hs, dplace a S, dplace b U] :=
  ⟨ms, hs, n, a, b, S, U, rfl, hM, h1.lt, h2.lt, h1.len, h2.len, h1.tie, h2.tie⟩
section
variable {K : PySem.W.Frag} {l : Option Addr} {ρ : Ro} {m : Nat}
variable {Φ : Nat → D → Prop}
theorem v_rep0 {ms : List Int} (hM : MsP ms)
    (q : Φ m (.tup (dints (List.replicate ms.length 0)))) :
    VvC K l ρ (fun vs H Q => ∃ x y, vs = [x, y] ∧ rRepA K x y H Q)
      [.tup [.int 0], .int ((dints ms).length : Int)] m Φ := by
  have h3 := hM.2.1
  refine v_repT (by omega) (by rw [dints_length]; omega) (by simp) ?_
  rw [Int.toNat_natCast, List.flatten_replicate_singleton, dints_length, ← dints_rep]
  exact q
end
theorem PlP.num {ms : List Int} {n a : Nat} {S : List (List Int)}
    (h : PlP ms n a S) (hM : MsP ms) (hn : n ≤ 17) : Num 3 1700 (dplace a S) :=
  num_place hM hn h.lt h.len h.tie
theorem map_dints {ys : List D} {P : Nat → List Int → Prop}
    (h : ∀ (i : Nat) y, ys[i]? = some y → ∃ t, y = D.tup (dints t) ∧ P i t) :
    ∃ S : List (List Int), ys = (S.map fun t => D.tup (dints t)) ∧
      ∀ (i : Nat) t, S[i]? = some t → P i t := dmap_of h

theorem cut_take (xs : List D) (k : Nat) :
    Wt.cutD xs none (some (k : Int)) = xs.take k := by
  unfold Wt.cutD
  rw [HT.sIx_none, HT.sIx_nat, List.drop_zero, Nat.sub_zero]
  rcases Nat.le_total k xs.length with h | h
  · rw [Nat.min_eq_left h]
  · rw [Nat.min_eq_right h, List.take_length, List.take_of_length_le h]
theorem cut_drop (xs : List D) (k : Nat) :
    Wt.cutD xs (some (k : Int)) none = xs.drop k := by
  unfold Wt.cutD
  rw [HT.sIx_none, HT.sIx_nat]
  rcases Nat.le_total k xs.length with h | h
  · rw [Nat.min_eq_left h, List.take_of_length_le (by rw [List.length_drop]; omega)]
  · rw [Nat.min_eq_right h, Nat.sub_self, List.take_zero, List.drop_eq_nil_of_le h]

/-! what is drawn, in one step -/
section
variable {Ψ : Nat → D → Prop} {m : Nat}
theorem g_take {n : Nat} (hm : m < 10000000) (hn : 0 < n) (hn2 : n < 1000000000)
    (h : ∀ (m2 r : Nat), m2 ≤ m + 1 → r < n → Ψ m2 (.int r)) :
    preTake m [.int n] ∧ ∀ m2 d, psiTake [.int n] m m2 d → Ψ m2 d := by
  refine ⟨⟨hm, n, rfl, by omega, by omega⟩, fun m2 d q => ?_⟩
  obtain ⟨h1, n2, r, e, rfl, h2, h3⟩ := q
  have e2 := D.int.inj (List.cons.inj e).1
  have := h m2 r.toNat h1 (by omega)
  rwa [Int.toNat_of_nonneg h2] at this
theorem g_takeI {n : Int} (hm : m < 10000000) (hn : 0 < n) (hn2 : n < 1000000000)
    (h : ∀ (m2 r : Nat), m2 ≤ m + 1 → (r : Int) < n → Ψ m2 (.int r)) :
    preTake m [.int n] ∧ ∀ m2 d, psiTake [.int n] m m2 d → Ψ m2 d := by
  have := g_take (Ψ := Ψ) (n := n.toNat) hm (by omega) (by omega)
    fun m2 r h1 h2 => h m2 r h1 (by omega)
  rwa [Int.toNat_of_nonneg (by omega)] at this
theorem g_of {c : D} {xs : List D} (hm : m < 10000000) (hc : c.items = some xs)
    (hx : xs ≠ []) (hl : xs.length < 1000000)
    (h : ∀ (m2 : Nat) d, m2 ≤ m + 1 → d ∈ xs → Ψ m2 d) :
    preOf m [c] ∧ ∀ m2 d, psiOf [c] m m2 d → Ψ m2 d := by
  refine ⟨⟨hm, c, xs, rfl, hc, hx, hl⟩, fun m2 d q => ?_⟩
  obtain ⟨h1, c2, ys, e, h2, h3⟩ := q
  cases (List.cons.inj e).1
  rw [hc] at h2
  cases h2
  exact h m2 d h1 h3
theorem g_scale (hm : m < 9000000)
    (h : ∀ (m2 : Nat) ms, m2 ≤ m + 1 → MsQ ms → Ψ m2 (.tup (dints ms))) :
    preSc m [] ∧ ∀ m2 d, psiSc [] m m2 d → Ψ m2 d := by
  refine ⟨⟨hm, rfl⟩, fun m2 d q => ?_⟩
  obtain ⟨h1, ms, h2, rfl⟩ := q
  exact h m2 ms h1 h2
theorem g_knot {ms : List Int} (hm : m < 8000000) (hM : MsP ms)
    (h : ∀ (m2 : Nat) t, m2 ≤ m + 3 → TieP ms t → Ψ m2 (.tup (dints t))) :
    preKn m [.tup (dints ms)] ∧ ∀ m2 d, psiKn [.tup (dints ms)] m m2 d → Ψ m2 d := by
  refine ⟨⟨hm, ms, rfl, hM⟩, fun m2 d q => ?_⟩
  obtain ⟨h1, ms2, t, e, ht, rfl⟩ := q
  cases tup_inj (List.cons.inj e).1
  exact h m2 t h1 ht
theorem g_col {z : Int} (hm : m < 7000000) (h1 : 2 ≤ z) (h2 : z ≤ 16)
    (h : ∀ (m2 : Nat) hs, m2 ≤ m + 20 → HuP hs → (hs.length : Int) ≤ z →
      Ψ m2 (.tup (dints hs))) :
    preCol m [.int z] ∧ ∀ m2 d, psiCol [.int z] m m2 d → Ψ m2 d := by
  refine ⟨⟨hm, z, rfl, h1, h2⟩, fun m2 d q => ?_⟩
  obtain ⟨q1, hs, z2, e, rfl, q2, q3⟩ := q
  cases (List.cons.inj e).1
  exact h m2 hs q1 q2 q3
theorem g_grid {ms : List Int} {n : Nat} (hm : m < 7000000) (hM : MsP ms)
    (hn : n ≤ 16)
    (h : ∀ (m2 : Nat) T, m2 ≤ m + 2000 → TabP ms n T → Ψ m2 (dtab T)) :
    preGrid m [.tup (dints ms), .int n] ∧
      ∀ m2 d, psiGrid [.tup (dints ms), .int n] m m2 d → Ψ m2 d := by
  refine ⟨⟨hm, ms, n, rfl, hM, by omega, by omega⟩, fun m2 d q => ?_⟩
  obtain ⟨q1, ms2, n2, T, e, q2, rfl⟩ := q
  cases tup_inj (List.cons.inj e).1
  cases D.int.inj (List.cons.inj (List.cons.inj e).2).1
  rw [Int.toNat_natCast] at q2
  exact h m2 T q1 q2
theorem g_spot {ms : List Int} {n a : Nat} (hm : m < 6000000) (hM : MsP ms)
    (ha : a < n) (hn : n ≤ 17)
    (h : ∀ (m2 : Nat) S, m2 ≤ m + 60 → PlP ms n a S → Ψ m2 (dplace a S)) :
    preSpot m [.tup (dints ms), .int n, .int a] ∧
      ∀ m2 d, psiSpot [.tup (dints ms), .int n, .int a] m m2 d → Ψ m2 d := by
  refine ⟨⟨hm, ms, n, a, rfl, hM, ha, hn⟩, fun m2 d q => ?_⟩
  obtain ⟨q1, ms2, n2, a2, S, e, q2, rfl⟩ := q
  obtain ⟨rfl, rfl, rfl⟩ := args3 e
  exact h m2 S q1 q2
end

def preLt (ds : List D) : Prop := ∃ (ms : List Int) (n a b : Nat)
  (S U : List (List Int)), ds = [.tup (dints ms), dplace a S, dplace b U] ∧
  MsP ms ∧ a < n ∧ b < n ∧ S.length = n ∧ U.length = n ∧
  (∀ t ∈ S, TieP ms t) ∧ ∀ t ∈ U, TieP ms t
def fLt : List D → D
  | [.tup ms, .tup [.int a, s], .tup [.int b, u]] =>
    .tup (dints (lessF (uints ms) ((usays s).getD b.toNat []) ((usays u).getD a.toNat [])))
  | _ => .non
theorem fLt_is (ms : List Int) (a b : Nat) (S U : List (List Int)) :
    fLt [.tup (dints ms), dplace a S, dplace b U] =
      .tup (dints (lessF ms (S.getD b []) (U.getD a []))) := by
  show D.tup (dints (lessF (uints (dints ms)) ((usays (dsays S)).getD (b : Int).toNat [])
    ((usays (dsays U)).getD (a : Int).toNat []))) = _
  rw [uints_dints, usays_dsays, usays_dsays, Int.toNat_natCast, Int.toNat_natCast]
theorem dsays_inj {S U : List (List Int)} (h : dsays S = dsays U) : S = U := by
  have := congrArg usays h
  rwa [usays_dsays, usays_dsays] at this
theorem dplace_inj {a b : Nat} {S U : List (List Int)}
    (h : dplace a S = dplace b U) : a = b ∧ S = U := by
  have h1 := D.tup.inj h
  have h2 := D.int.inj (List.cons.inj h1).1
  have h3 := (List.cons.inj (List.cons.inj h1).2).1
  exact ⟨by omega, dsays_inj h3⟩
theorem less_neg {ms x y : List Int} (hM : MsP ms) (hx : TieP ms x)
    (hy : TieP ms y) : lessF ms (List.replicate ms.length 0) (lessF ms x y) =
      lessF ms y x := by
  have h1 := hx.1
  have h2 := hy.1
  have h3 := (less_tie hM hx hy).1
  have h0 : (List.replicate ms.length (0 : Int)).length = ms.length := by simp
  refine ext_of_get ?_ fun c a b e1 e2 => ?_
  · rw [(less_tie hM (rep_tie hM) (less_tie hM hx hy)).1, (less_tie hM hy hx).1]
  · have hl := (less_tie hM hy hx).1
    obtain ⟨m, em⟩ := get_of_len (ys := ms) (by omega) e2
    obtain ⟨p, ep⟩ := get_of_len (ys := x) (by omega) em
    obtain ⟨q, eq⟩ := get_of_len (ys := y) (by omega) em
    have e0 : (List.replicate ms.length (0 : Int))[c]? = some 0 := by
      rw [List.getElem?_replicate, if_pos (List.getElem?_eq_some_iff.mp em).1]
    have e3 : (lessF ms x y)[c]? = some ((p - q) % m) := z3_get ep eq em
    rw [show (lessF ms (List.replicate ms.length 0) (lessF ms x y))[c]? = some ((0 - (p - q) % m) % m) from z3_get e0 e3 em] at e1
    rw [show (lessF ms y x)[c]? = some ((q - p) % m) from z3_get eq ep em] at e2
    cases e1
    cases e2
    rw [Int.sub_emod, Int.emod_emod, ← Int.sub_emod]
    congr 1
    omega
theorem pLt {ms : List Int} {n a b : Nat} {S U : List (List Int)}
    (hM : MsP ms) (h1 : PlP ms n a S) (h2 : PlP ms n b U) :
    preLt [.tup (dints ms), dplace a S, dplace b U] :=
  ⟨ms, n, a, b, S, U, rfl, hM, h1.lt, h2.lt, h1.len, h2.len, h1.tie, h2.tie⟩

/-! of anything -/
def preBelow (ds : List D) : Prop := ∃ d n, ds = [d, .int n] ∧ d.own = false
def fBelow : List D → D
  | [d, .int n] => .bl (D.within 0 (n - 1) d)
  | _ => .non
def preTupOf (ds : List D) : Prop := ∃ d n, ds = [d, .int n] ∧ d.own = false
def D.tupOf (n : Int) : D → Bool
  | .tup xs => decide ((xs.length : Int) = n)
  | _ => false
def fTupOf : List D → D
  | [d, .int n] => .bl (D.tupOf n d)
  | _ => .non
theorem tupOf_yes {n : Int} {d : D} (h : D.tupOf n d = true) :
    ∃ xs, d = .tup xs ∧ (xs.length : Int) = n := by
  cases d with
  | tup xs => exact ⟨xs, rfl, by simpa [D.tupOf] using h⟩
  | _ => cases h
def tieB (ms : List Int) : D → Bool
  | .tup xs => decide (xs.length = ms.length) &&
      (List.zipWith (fun x m => D.within 0 (m - 1) x) xs ms).all id
  | _ => false
def preTie (ds : List D) : Prop :=
  ∃ ms d, ds = [.tup (dints ms), d] ∧ MsP ms ∧ d.plain = true
def fTie : List D → D
  | [.tup ms, d] => .bl (tieB (uints ms) d)
  | _ => .non
def tiesB (ms : List Int) (n : Int) : D → Bool
  | .tup xs => decide ((xs.length : Int) = n) && xs.all (tieB ms)
  | _ => false
def preTies (ds : List D) : Prop := ∃ ms d n,
  ds = [.tup (dints ms), d, .int n] ∧ MsP ms ∧ d.plain = true ∧ n ≤ 1000
def fTies : List D → D
  | [.tup ms, d, .int n] => .bl (tiesB (uints ms) n d)
  | _ => .non
theorem tie_no {ms : List Int} {d : D}
    (h : D.tupOf ((dints ms).length : Int) d = false) : tieB ms d = false := by
  cases d with
  | tup xs =>
    rw [D.tupOf, decide_eq_false_iff_not, dints_length] at h
    rw [tieB, decide_eq_false (by omega)]
    rfl
  | _ => rfl
theorem zip_snoc {α β γ : Type} {f : α → β → γ} : ∀ {xs : List α} {ys : List β}
    {x : α} {y : β}, xs.length = ys.length →
    List.zipWith f (xs ++ [x]) (ys ++ [y]) = List.zipWith f xs ys ++ [f x y]
  | [], [], _, _, _ => rfl
  | a :: xs, b :: ys, x, y, h => by
    simp only [List.cons_append, List.zipWith_cons_cons]
    rw [zip_snoc (by simpa using h)]
  | [], _ :: _, _, _, h => by simp at h
  | _ :: _, [], _, _, h => by simp at h
theorem tieB_iff {ms : List Int} {d : D} : tieB ms d = true ↔
    ∃ t, d = .tup (dints t) ∧ TieP ms t := by
  constructor
  · intro h
    cases d with
    | tup xs =>
      rw [tieB, Bool.and_eq_true, decide_eq_true_eq, List.all_eq_true] at h
      obtain ⟨h1, h2⟩ := h
      obtain ⟨t, rfl, ht⟩ := dmap_of (g := D.int) (ys := xs)
        (P := fun i x => ∀ m, ms[i]? = some m → 0 ≤ x ∧ x < m) (by
          intro i y e
          obtain ⟨m, em⟩ := get_of_len (Nat.le_of_eq h1) e
          have := h2 (D.within 0 (m - 1) y) (List.mem_iff_getElem?.mpr
            ⟨i, by rw [List.getElem?_zipWith, e, em]⟩)
          cases y with
          | int x =>
            refine ⟨x, rfl, fun m2 e2 => ?_⟩
            rw [em] at e2
            cases e2
            rw [id, D.within, Bool.and_eq_true, decide_eq_true_eq,
              decide_eq_true_eq] at this
            omega
          | _ => cases this)
      refine ⟨t, rfl, by simpa using h1, fun c m x e1 e2 => ht c x e2 m e1⟩
    | _ => cases h
  · rintro ⟨t, rfl, h1, h2⟩
    rw [tieB, dints_length, decide_eq_true h1, Bool.true_and,
      List.all_eq_true]
    intro b hb
    obtain ⟨i, hi⟩ := List.mem_iff_getElem?.mp hb
    rw [List.getElem?_zipWith] at hi
    cases e1 : (dints t)[i]? with
    | none => rw [e1] at hi; simp at hi
    | some x =>
      cases e2 : ms[i]? with
      | none => rw [e1, e2] at hi; simp at hi
      | some m =>
        rw [e1, e2] at hi
        cases hi
        obtain ⟨x, ex, rfl⟩ := dints_get e1
        have := h2 i m x e2 ex
        rw [id, D.within, decide_eq_true this.1, decide_eq_true (by omega)]
        rfl
theorem tiesB_iff {ms : List Int} {n : Nat} {d : D} : tiesB ms n d = true ↔
    ∃ S : List (List Int), d = dsays S ∧ S.length = n ∧
      ∀ t ∈ S, TieP ms t := by
  constructor
  · intro h
    cases d with
    | tup xs =>
      rw [tiesB, Bool.and_eq_true, decide_eq_true_eq, List.all_eq_true] at h
      obtain ⟨h1, h2⟩ := h
      obtain ⟨S, rfl, hS⟩ := map_dints (ys := xs) (P := fun _ t => TieP ms t)
        fun i y e => tieB_iff.mp (h2 y (List.mem_of_getElem? e))
      refine ⟨S, rfl, by simp at h1; omega, fun t ht => ?_⟩
      obtain ⟨i, hi⟩ := List.getElem?_of_mem ht
      exact hS i t hi
    | _ => cases h
  · rintro ⟨S, rfl, h1, h2⟩
    rw [tiesB, List.length_map, decide_eq_true (by omega), Bool.true_and,
      List.all_eq_true]
    intro d hd
    obtain ⟨t, ht, rfl⟩ := List.mem_map.mp hd
    exact tieB_iff.mpr ⟨t, rfl, h2 t ht⟩
def placeB (ms : List Int) (n : Nat) : D → Bool
  | .tup [.int a, .tup ss] => D.within 0 ((n : Int) - 1) (.int a) &&
      tiesB ms n (.tup ss) && (match ss[a.toNat]? with
        | some d => PyData.eqv d.py
            (D.tup (dints (List.replicate ms.length 0))).py
        | none => false)
  | _ => false
def prePlace (C : Addr) (ds : List D) : Prop := ∃ ms hs d,
  ds = [frD C ms hs, d] ∧ MsP ms ∧ hs.length ≤ 60 ∧ d.plain = true
def fPlace : List D → D
  | [.ins _ _ [.tup ms, .tup hs], d] => .bl (placeB (uints ms) hs.length d)
  | _ => .non
theorem fPlace_is (C : Addr) (ms hs : List Int) (d : D) :
    fPlace [frD C ms hs, d] = .bl (placeB ms hs.length d) := by
  show D.bl (placeB (uints (dints ms)) (dints hs).length d) = _
  rw [uints_dints, dints_length]
theorem placeB_iff {ms : List Int} {n : Nat} {d : D} (hM : MsP ms) :
    placeB ms n d = true ↔ ∃ a S, d = dplace a S ∧ PlP ms n a S := by
  constructor
  · intro h
    unfold placeB at h
    split at h
    · rename_i a ss
      rw [Bool.and_eq_true, Bool.and_eq_true] at h
      obtain ⟨⟨h1, h2⟩, h3⟩ := h
      obtain ⟨S, e, hl, hS⟩ := tiesB_iff.mp h2
      rw [D.within, Bool.and_eq_true, decide_eq_true_eq,
        decide_eq_true_eq] at h1
      cases e
      refine ⟨a.toNat, S, ?_, by omega, hl, hS, ?_⟩
      · show _ = D.tup [.int (a.toNat : Int), _]
        rw [Int.toNat_of_nonneg h1.1]
      · obtain ⟨t, et⟩ := says_get (c := a.toNat) hl (by omega)
        rw [dsays_get et] at h3
        have ht := hS t (List.mem_of_getElem? et)
        have := ((ht.num hM).eqv ((rep_tie hM).num hM)).mp h3
        rw [et, tup_inj this]
    · cases h
  · rintro ⟨a, S, rfl, h⟩
    have h1 := h.lt
    rw [placeB, Int.toNat_natCast, dsays_get h.own]
    have h2 : tiesB ms n (dsays S) = true :=
      tiesB_iff.mpr ⟨S, rfl, h.len, h.tie⟩
    rw [show tiesB ms n (.tup (S.map fun t => .tup (dints t))) = true from h2,
      D.within, decide_eq_true (by omega), decide_eq_true (by omega)]
    exact ((rep_tie hM).num hM).same
theorem placeB_parts {ms : List Int} {n : Nat} {a s : D} (hM : MsP ms)
    (h : placeB ms n (.tup [a, s]) = true) :
    D.within 0 ((n : Int) - 1) a = true ∧ tiesB ms n s = true := by
  obtain ⟨b, S, e, hP⟩ := (placeB_iff hM).mp h
  cases e
  have := hP.lt
  refine ⟨?_, tiesB_iff.mpr ⟨S, rfl, hP.len, hP.tie⟩⟩
  rw [D.within, decide_eq_true (by omega), decide_eq_true (by omega)]
  rfl
theorem plains_of {xs : List D} (h : ∀ x ∈ xs, x.plain = true) :
    (D.tup xs).plain = true := by
  rw [D.plain, plains_all, List.all_eq_true]
  exact h
theorem plain_says (S : List (List Int)) : (dsays S).plain = true :=
  plains_of fun x hx => by
    obtain ⟨t, _, rfl⟩ := List.mem_map.mp hx
    exact plain_ints t
theorem plain_place (a : Nat) (S : List (List Int)) :
    (dplace a S).plain = true :=
  plains_of fun x hx => by
    simp only [List.mem_cons, List.not_mem_nil, or_false] at hx
    rcases hx with rfl | rfl
    · rfl
    · exact plain_says S
theorem plain_tab (T : List (List (List Int))) : (dtab T).plain = true :=
  plains_of fun x hx => by
    obtain ⟨r, _, rfl⟩ := List.mem_map.mp hx
    exact plain_says r
def preStem (C : Addr) (ds : List D) : Prop := ∃ ms hs, ds = [frD C ms hs]
def fStem : List D → D
  | [.ins _ _ [_, .tup hs]] => .int hs.length
  | _ => .non
theorem pStem {C : Addr} {ms hs : List Int} : preStem C [frD C ms hs] :=
  ⟨ms, hs, rfl⟩
theorem fStem_is (C : Addr) (ms hs : List Int) :
    fStem [frD C ms hs] = .int hs.length := by
  show D.int ((dints hs).length : Int) = _
  rw [dints_length]
theorem map_mapIdx_ {α β γ : Type} (xs : List α) (f : Nat → α → β) (g : β → γ) :
    (xs.mapIdx f).map g = xs.mapIdx fun i x => g (f i x) := by
  refine ext_of_get (by simp) fun i x y e1 e2 => ?_
  rw [List.getElem?_map, List.getElem?_mapIdx] at e1
  rw [List.getElem?_mapIdx] at e2
  cases e : xs[i]? with
  | none => rw [e] at e1; cases e1
  | some a =>
    rw [e] at e1 e2
    cases e1
    cases e2
    rfl
/-! lots, standings -/
def utab : D → List (List (List Int))
  | .tup rs => rs.map usays
  | _ => []
theorem utab_dtab (T : List (List (List Int))) : utab (dtab T) = T := by
  rw [dtab, utab, List.map_map]
  conv => rhs; rw [← List.map_id T]
  apply List.map_congr_left
  intro r _
  exact usays_dsays r
theorem dtab_inj {T U : List (List (List Int))} (h : dtab T = dtab U) :
    T = U := by
  have := congrArg utab h
  rwa [utab_dtab, utab_dtab] at this
abbrev Spot := Nat × List (List Int)
abbrev dspot (p : Spot) : D := dplace p.1 p.2
abbrev dlot (L : List Spot) : D := .tup (L.map dspot)
def uspot : D → Spot
  | .tup [.int a, s] => (a.toNat, usays s)
  | _ => (0, [])
theorem uspot_dspot (p : Spot) : uspot (dspot p) = p := by
  show ((p.1 : Int).toNat, usays (dsays p.2)) = p
  rw [usays_dsays, Int.toNat_natCast]
def ulot : D → List Spot
  | .tup xs => xs.map uspot
  | _ => []
theorem ulot_dlot (L : List Spot) : ulot (dlot L) = L := by
  rw [dlot, ulot, List.map_map]
  conv => rhs; rw [← List.map_id L]
  apply List.map_congr_left
  intro p _
  exact uspot_dspot p
theorem dlot_inj {L U : List Spot} (h : dlot L = dlot U) : L = U := by
  have := congrArg ulot h
  rwa [ulot_dlot, ulot_dlot] at this
def LotP (ms : List Int) (n : Nat) (L : List Spot) : Prop := L.length = n ∧
  ∀ (i : Nat) p, L[i]? = some p → p.1 = i ∧ PlP ms n i p.2
abbrev zt (ms : List Int) : List Int := List.replicate ms.length 0
def standP (ms : List Int) (T : List (List (List Int))) : List Spot :=
  T.mapIdx fun i r => (i, r ++ List.replicate (T.length - i) (zt ms))
def sayAt (L : List Spot) (i j : Nat) : List Int :=
  ((L.getD i (0, [])).2).getD j []
def webF (ms : List Int) (L : List Spot) : List (List (List Int)) :=
  (List.range L.length).map fun i => (List.range i).map fun j =>
    lessF ms (sayAt L i j) (sayAt L j i)
def preStand (C : Addr) (ds : List D) : Prop := ∃ ms hs T,
  ds = [frD C ms hs, dtab T] ∧ MsP ms ∧ hs.length ≤ 16 ∧ TabP ms hs.length T
def fStand : List D → D
  | [.ins _ _ [.tup ms, _], t] => dlot (standP (uints ms) (utab t))
  | _ => .non
theorem fStand_is (C : Addr) (ms hs : List Int) (T : List (List (List Int))) :
    fStand [frD C ms hs, dtab T] = dlot (standP ms T) := by
  show dlot (standP (uints (dints ms)) (utab (dtab T))) = _
  rw [uints_dints, utab_dtab]
def preWof (C : Addr) (ds : List D) : Prop := ∃ ms hs L,
  ds = [frD C ms hs, dlot L] ∧ MsP ms ∧ hs.length ≤ 16 ∧ LotP ms hs.length L
def fWof : List D → D
  | [.ins _ _ [.tup ms, _], t] => dtab (webF (uints ms) (ulot t))
  | _ => .non
theorem fWof_is (C : Addr) (ms hs : List Int) (L : List Spot) :
    fWof [frD C ms hs, dlot L] = dtab (webF ms L) := by
  show dtab (webF (uints (dints ms)) (ulot (dlot L))) = _
  rw [uints_dints, ulot_dlot]
def preWrow (C : Addr) (ds : List D) : Prop := ∃ ms hs L, ∃ i : Nat,
  ds = [frD C ms hs, dlot L, .int i] ∧ MsP ms ∧ hs.length ≤ 16 ∧
    LotP ms hs.length L ∧ i < hs.length
def fWrow : List D → D
  | [.ins _ _ [.tup ms, _], t, .int i] => .tup ((List.range i.toNat).map fun j =>
      .tup (dints (lessF (uints ms) (sayAt (ulot t) i.toNat j) (sayAt (ulot t) j i.toNat))))
  | _ => .non
theorem fWrow_is (C : Addr) (ms hs : List Int) (L : List Spot) (i : Nat) :
    fWrow [frD C ms hs, dlot L, .int i] = .tup ((List.range i).map fun j =>
      .tup (dints (lessF ms (sayAt L i j) (sayAt L j i)))) := by
  show D.tup ((List.range (i : Int).toNat).map fun j => .tup (dints (lessF (uints (dints ms))
    (sayAt (ulot (dlot L)) (i : Int).toNat j) (sayAt (ulot (dlot L)) j (i : Int).toNat)))) = _
  rw [uints_dints, ulot_dlot, Int.toNat_natCast]
theorem LotP.at {ms : List Int} {n i : Nat} {L : List Spot} (h : LotP ms n L)
    (hi : i < n) : ∃ S, L[i]? = some (i, S) ∧ PlP ms n i S := by
  have hl := h.1
  obtain ⟨p, hp⟩ : ∃ p, L[i]? = some p := ⟨L[i]'(by omega), List.getElem?_eq_getElem _⟩
  obtain ⟨e, h2⟩ := h.2 i p hp
  refine ⟨p.2, ?_, h2⟩
  rw [hp, ← e]
theorem sayAt_of {L : List Spot} {i j a : Nat} {S : List (List Int)} {t : List Int}
    (h1 : L[i]? = some (a, S)) (h2 : S[j]? = some t) : sayAt L i j = t := by
  have e : L.getD i (0, []) = (a, S) := by
    rw [List.getD_eq_getElem?_getD, h1]; rfl
  unfold sayAt
  rw [e]
  exact getD_of h2
theorem dlot_get {L : List Spot} {i a : Nat} {S : List (List Int)}
    (h : L[i]? = some (a, S)) : (L.map dspot)[i]? = some (dplace a S) := by
  rw [List.getElem?_map, h]; rfl
theorem webF_get {ms : List Int} {L : List Spot} {i : Nat} {r : List (List Int)}
    (h : (webF ms L)[i]? = some r) : i < L.length ∧ r = (List.range i).map fun j =>
      lessF ms (sayAt L i j) (sayAt L j i) := by
  unfold webF at h
  rw [List.getElem?_map] at h
  have hi : i < L.length := by
    rcases Nat.lt_or_ge i L.length with z | z
    · exact z
    · rw [List.getElem?_eq_none (by simpa using z)] at h
      cases h
  rw [List.getElem?_range hi] at h
  exact ⟨hi, (Option.some.inj h).symm⟩
theorem webF_tab {ms : List Int} {n : Nat} {L : List Spot} (hM : MsP ms)
    (h : LotP ms n L) : TabP ms n (webF ms L) := by
  refine ⟨by unfold webF; rw [List.length_map, List.length_range, h.1], fun i r e => ?_⟩
  obtain ⟨hi, rfl⟩ := webF_get e
  refine ⟨by simp, fun t ht => ?_⟩
  obtain ⟨j, hj, rfl⟩ := List.mem_map.mp ht
  rw [List.mem_range] at hj
  rw [h.1] at hi
  obtain ⟨S, e1, h1⟩ := h.at hi
  obtain ⟨U, e2, h2⟩ := h.at (i := j) (by omega)
  obtain ⟨x, ex⟩ := says_get (c := j) h1.len (by omega)
  obtain ⟨y, ey⟩ := says_get (c := i) h2.len hi
  rw [sayAt_of e1 ex, sayAt_of e2 ey]
  exact less_tie hM (h1.tie x (List.mem_of_getElem? ex)) (h2.tie y (List.mem_of_getElem? ey))
theorem less_zero {ms x : List Int} (hM : MsP ms) (hx : TieP ms x) :
    lessF ms x (zt ms) = x := by
  have h1 := hx.1
  refine ext_of_get (by rw [(less_tie hM hx (rep_tie hM)).1, h1]) fun c a b e1 e2 => ?_
  obtain ⟨m, em⟩ := get_of_len (ys := ms) (by omega) e2
  have e0 : (zt ms)[c]? = some 0 := by
    rw [List.getElem?_replicate, if_pos (List.getElem?_eq_some_iff.mp em).1]
  rw [show (lessF ms x (zt ms))[c]? = some ((b - 0) % m) from z3_get e2 e0 em] at e1
  cases e1
  have := hx.2 c m b em e2
  rw [Int.sub_zero]
  exact Int.emod_eq_of_lt this.1 this.2
theorem stand_get {ms : List Int} {T : List (List (List Int))} {i : Nat}
    {r : List (List Int)} (h : T[i]? = some r) :
    (standP ms T)[i]? = some (i, r ++ List.replicate (T.length - i) (zt ms)) := by
  unfold standP
  rw [List.getElem?_mapIdx, h]; rfl
theorem stand_lot {ms : List Int} {n : Nat} {T : List (List (List Int))}
    (hM : MsP ms) (h : TabP ms n T) : LotP ms n (standP ms T) := by
  have hl := h.1
  refine ⟨by unfold standP; simpa using hl, fun i p e => ?_⟩
  have hi : i < T.length := by
    have := (List.getElem?_eq_some_iff.mp e).1
    simpa [standP] using this
  obtain ⟨r, hr⟩ : ∃ r, T[i]? = some r := ⟨T[i], List.getElem?_eq_getElem hi⟩
  rw [stand_get hr] at e
  cases e
  have h1 := h.2 i r hr
  refine ⟨rfl, by omega, by simp; omega, fun t ht => ?_, ?_⟩
  · rcases List.mem_append.mp ht with z | z
    · exact h1.2 t z
    · rw [List.eq_of_mem_replicate z]
      exact rep_tie hM
  · rw [List.getElem?_append_right (by omega), List.getElem?_replicate, if_pos (by omega)]
theorem stand_less {ms : List Int} {T : List (List (List Int))} {i j : Nat}
    {r : List (List Int)} {t : List Int} (h : T[i]? = some r)
    (hj : r[j]? = some t) : sayAt (standP ms T) i j = t :=
  sayAt_of (stand_get h) (by
    rw [List.getElem?_append_left (List.getElem?_eq_some_iff.mp hj).1]; exact hj)
theorem stand_more {ms : List Int} {n : Nat} {T : List (List (List Int))}
    {i j : Nat} (h : TabP ms n T) (hi : i < n) (hij : i ≤ j) (hj : j < n) :
    sayAt (standP ms T) i j = zt ms := by
  have hl := h.1
  obtain ⟨r, hr⟩ : ∃ r, T[i]? = some r := ⟨T[i]'(by omega), List.getElem?_eq_getElem _⟩
  have h1 := (h.2 i r hr).1
  refine sayAt_of (stand_get hr) ?_
  rw [List.getElem?_append_right (by omega), List.getElem?_replicate, if_pos (by omega)]
theorem web_stand {ms : List Int} {n : Nat} {T : List (List (List Int))}
    (hM : MsP ms) (h : TabP ms n T) : webF ms (standP ms T) = T := by
  have hl := h.1
  have hs : (standP ms T).length = T.length := by unfold standP; simp
  refine ext_of_get (by unfold webF; simp [hs]) fun i r r' e1 e2 => ?_
  obtain ⟨hi, rfl⟩ := webF_get e1
  have h1 := h.2 i r' e2
  refine ext_of_get (by simp [h1.1]) fun j t t' e3 e4 => ?_
  have hj : j < i := by
    have := (List.getElem?_eq_some_iff.mp e4).1
    omega
  rw [List.getElem?_map, List.getElem?_range hj] at e3
  cases e3
  show lessF ms (sayAt (standP ms T) i j) (sayAt (standP ms T) j i) = t'
  rw [stand_less e2 e4, stand_more h (by omega) (by omega) (by omega)]
  exact less_zero hM (h1.2 t' (List.mem_of_getElem? e4))
theorem stand_inj {ms : List Int} {n : Nat} {T U : List (List (List Int))}
    (hM : MsP ms) (h : TabP ms n T) (h' : TabP ms n U)
    (e : standP ms T = standP ms U) : T = U := by
  rw [← web_stand hM h, e, web_stand hM h']
theorem num_lot {ms : List Int} {n : Nat} {L : List Spot} (hM : MsP ms)
    (hn : n ≤ 17) (hl : L.length ≤ 40) (h : ∀ p ∈ L, PlP ms n p.1 p.2) :
    Num 4 68040 (dlot L) := by
  refine (Num.tup (k := 3) (w := 1700) fun x hx => ?_).up (by omega) ?_
  · obtain ⟨p, hp, rfl⟩ := List.mem_map.mp hx
    exact (h p hp).num hM hn
  · rw [List.length_map]
    omega
theorem LotP.all {ms : List Int} {n : Nat} {L : List Spot} (h : LotP ms n L) :
    ∀ p ∈ L, PlP ms n p.1 p.2 := by
  intro p hp
  obtain ⟨i, hi⟩ := List.getElem?_of_mem hp
  obtain ⟨e, h2⟩ := h.2 i p hi
  rw [e]; exact h2

/-! a table's ties of two stems -/
def tt (T : List (List (List Int))) (i j : Nat) : List Int :=
  (T.getD i []).getD j []
def tabT (T : List (List (List Int))) (i j : Nat) : List Int :=
  if j < i then tt T i j else tt T j i
def webT (ms : List Int) (T : List (List (List Int))) (i j : Nat) : List Int :=
  if j < i then tt T i j else negF ms (tt T j i)
theorem tt_of {T : List (List (List Int))} {i j : Nat} {r : List (List Int)}
    {t : List Int} (h1 : T[i]? = some r) (h2 : r[j]? = some t) : tt T i j = t := by
  have e : T.getD i [] = r := by rw [List.getD_eq_getElem?_getD, h1]; rfl
  unfold tt
  rw [e]
  exact getD_of h2
theorem tt_tie {ms : List Int} {n : Nat} {T : List (List (List Int))} {i j : Nat}
    (h : TabP ms n T) (hi : i < n) (hj : j < i) : TieP ms (tt T i j) := by
  obtain ⟨r, t, e1, e2, h3⟩ := h.at hi hj
  rw [tt_of e1 e2]; exact h3
theorem tabT_tie {ms : List Int} {n : Nat} {T : List (List (List Int))} {i j : Nat}
    (h : TabP ms n T) (hi : i < n) (hj : j < n) (hij : i ≠ j) : TieP ms (tabT T i j) := by
  unfold tabT
  split
  · exact tt_tie h hi (by omega)
  · exact tt_tie h hj (by omega)
theorem tabT_comm (T : List (List (List Int))) (i j : Nat) (h : i ≠ j) :
    tabT T i j = tabT T j i := by
  unfold tabT
  by_cases e : j < i
  · rw [if_pos e, if_neg (by omega)]
  · rw [if_neg e, if_pos (by omega)]
theorem webT_tie {ms : List Int} {n : Nat} {T : List (List (List Int))} {i j : Nat}
    (hM : MsP ms) (h : TabP ms n T) (hi : i < n) (hj : j < n) (hij : i ≠ j) :
    TieP ms (webT ms T i j) := by
  unfold webT
  split
  · exact tt_tie h hi (by omega)
  · exact less_tie hM (rep_tie hM) (tt_tie h hj (by omega))
theorem tab_sub {ms : List Int} {n : Nat} {T : List (List (List Int))} {i j : Nat}
    (h : TabP ms n T) (hi : i < n) (hj : j < n) (hij : i ≠ j) :
    ∃ r, dsub (dtab T) (mxI i j).toNat = some r ∧
      dsub r (mnI i j).toNat = some (.tup (dints (tabT T i j))) := by
  by_cases e : j < i
  · obtain ⟨r, t, e1, e2, h3⟩ := h.at hi e
    refine ⟨.tup (r.map fun t => .tup (dints t)), ?_, ?_⟩
    · rw [show mxI i j = i by unfold mxI; split <;> omega, Int.toNat_natCast]
      exact dtab_sub e1
    · rw [show mnI i j = j by unfold mnI; split <;> omega, Int.toNat_natCast, tabT,
        if_pos e, tt_of e1 e2]
      exact drow_sub e2
  · obtain ⟨r, t, e1, e2, h3⟩ := h.at hj (j := i) (by omega)
    refine ⟨.tup (r.map fun t => .tup (dints t)), ?_, ?_⟩
    · rw [show mxI i j = j by unfold mxI; split <;> omega, Int.toNat_natCast]
      exact dtab_sub e1
    · rw [show mnI i j = i by unfold mnI; split <;> omega, Int.toNat_natCast, tabT,
        if_neg e, tt_of e1 e2]
      exact drow_sub e2
theorem pTab {ms : List Int} {n : Nat} {T : List (List (List Int))} {i j : Nat}
    (h : TabP ms n T) (hi : i < n) (hj : j < n) (hij : i ≠ j) :
    preTab [dtab T, .int i, .int j] := by
  obtain ⟨r, h1, h2⟩ := tab_sub h hi hj hij
  exact ⟨_, _, _, r, _, rfl, by omega, by omega, h1, h2⟩
theorem tabAt_is {ms : List Int} {n : Nat} {T : List (List (List Int))} {i j : Nat}
    (h : TabP ms n T) (hi : i < n) (hj : j < n) (hij : i ≠ j) :
    tabAt (dtab T) i j = .tup (dints (tabT T i j)) := by
  obtain ⟨r, h1, h2⟩ := tab_sub h hi hj hij
  unfold tabAt
  rw [h1]
  show (dsub r (mnI i j).toNat).getD .non = _
  rw [h2]
  rfl
theorem fTab_is {ms : List Int} {n : Nat} {T : List (List (List Int))} {i j : Nat}
    (h : TabP ms n T) (hi : i < n) (hj : j < n) (hij : i ≠ j) :
    fTab [dtab T, .int i, .int j] = .tup (dints (tabT T i j)) := tabAt_is h hi hj hij
theorem pWeb {C : Addr} {ms hs : List Int} {n : Nat} {T : List (List (List Int))}
    {i j : Nat} (hM : MsP ms) (h : TabP ms n T) (hi : i < n) (hj : j < n)
    (hij : i ≠ j) : preWeb C [frD C ms hs, dtab T, .int i, .int j] := by
  obtain ⟨r, h1, h2⟩ := tab_sub h hi hj hij
  refine ⟨ms, hs, _, _, _, _, rfl, hM, by omega, by omega, ?_, tabT_tie h hi hj hij⟩
  rw [h1]
  exact h2
theorem fWeb_is {C : Addr} {ms hs : List Int} {n : Nat} {T : List (List (List Int))}
    {i j : Nat} (h : TabP ms n T) (hi : i < n) (hj : j < n)
    (hij : i ≠ j) : fWeb [frD C ms hs, dtab T, .int i, .int j] =
      .tup (dints (webT ms T i j)) := by
  show webAt (uints (dints ms)) (dtab T) i j = _
  unfold webAt webT
  rw [tabAt_is h hi hj hij, uints_dints, tabT]
  by_cases e : j < i
  · rw [if_pos (by omega), if_pos e, if_pos e]
  · rw [if_neg (by omega), if_neg e, if_neg e]
    show D.tup (dints (negF ms (uints (dints (tt T j i))))) = _
    rw [uints_dints]
theorem pt_lot {ms : List Int} {n : Nat} {L : List Spot} {i j : Nat}
    {S U : List (List Int)} (hi : i < n) (hj : j < n) (hij : i ≠ j)
    (e1 : L[i]? = some (i, S)) (e2 : L[j]? = some (j, U)) (h1 : PlP ms n i S)
    (h2 : PlP ms n j U) : ptF ms i S j U =
      .tup (dints (lessF ms (sayAt L i j) (sayAt L j i))) := by
  obtain ⟨x, ex⟩ := says_get (c := j) h1.len hj
  obtain ⟨y, ey⟩ := says_get (c := i) h2.len hi
  rw [ptF, if_neg hij, getD_of ex, getD_of ey, sayAt_of e1 ex, sayAt_of e2 ey]
theorem stand_web {ms : List Int} {n : Nat} {T : List (List (List Int))} {i j : Nat}
    (hM : MsP ms) (h : TabP ms n T) (hi : i < n) (hj : j < n) (hij : i ≠ j) :
    lessF ms (sayAt (standP ms T) i j) (sayAt (standP ms T) j i) = webT ms T i j := by
  unfold webT
  by_cases e : j < i
  · obtain ⟨r, t, e1, e2, h3⟩ := h.at hi e
    rw [if_pos e, stand_less e1 e2, stand_more h hj (by omega) hi, tt_of e1 e2]
    exact less_zero hM h3
  · obtain ⟨r, t, e1, e2, h3⟩ := h.at hj (j := i) (by omega)
    rw [if_neg e, stand_less e1 e2, stand_more h hi (by omega) hj, tt_of e1 e2]
    rfl

def constT (t : List Int) (n : Nat) : List (List (List Int)) :=
  (List.range n).map fun i => List.replicate i t
theorem const_tab {ms t : List Int} (h : TieP ms t) (n : Nat) :
    TabP ms n (constT t n) := by
  refine ⟨by simp [constT], fun i r e => ?_⟩
  unfold constT at e
  rw [List.getElem?_map] at e
  rcases Nat.lt_or_ge i n with z | z
  · rw [List.getElem?_range z] at e
    cases e
    exact ⟨by simp, fun u hu => by rw [List.eq_of_mem_replicate hu]; exact h⟩
  · rw [List.getElem?_eq_none (by simpa using z)] at e
    cases e

/-! ### ties put together -/
theorem tget {ms x : List Int} {c : Nat} {m : Int} (h : TieP ms x)
    (hm : ms[c]? = some m) : ∃ a, x[c]? = some a ∧ 0 ≤ a ∧ a < m := by
  obtain ⟨a, ea⟩ := get_of_len (ys := x) (by rw [h.1]; exact Nat.le_refl _) hm
  exact ⟨a, ea, h.2 c m a hm ea⟩
theorem tie_ext {ms x y : List Int} (hx : x.length = ms.length)
    (hy : y.length = ms.length)
    (h : ∀ (c : Nat) m, ms[c]? = some m → x[c]? = y[c]?) : x = y := by
  refine ext_of_get (by omega) fun c a b e1 e2 => ?_
  obtain ⟨m, em⟩ := get_of_len (ys := ms) (by omega) e1
  have := h c m em
  rw [e1, e2] at this
  exact Option.some.inj this
theorem sum_get {ms x y : List Int} {c : Nat} {m a b : Int}
    (em : ms[c]? = some m) (ea : x[c]? = some a) (eb : y[c]? = some b) :
    (sumF ms x y)[c]? = some ((a + b) % m) := z3_get ea eb em
theorem less_get {ms x y : List Int} {c : Nat} {m a b : Int}
    (em : ms[c]? = some m) (ea : x[c]? = some a) (eb : y[c]? = some b) :
    (lessF ms x y)[c]? = some ((a - b) % m) := z3_get ea eb em
theorem zt_get {ms : List Int} {c : Nat} {m : Int} (em : ms[c]? = some m) :
    (zt ms)[c]? = some 0 := by
  rw [List.getElem?_replicate, if_pos (List.getElem?_eq_some_iff.mp em).1]
theorem less_cancel {ms x y t : List Int} (hM : MsP ms) (hx : TieP ms x)
    (hy : TieP ms y) (ht : TieP ms t) :
    lessF ms (sumF ms x t) (sumF ms y t) = lessF ms x y := by
  refine tie_ext (less_tie hM (sum_tie hM hx ht) (sum_tie hM hy ht)).1
    (less_tie hM hx hy).1 fun c m em => ?_
  obtain ⟨a, ea, _⟩ := tget hx em
  obtain ⟨b, eb, _⟩ := tget hy em
  obtain ⟨d, ed, _⟩ := tget ht em
  rw [less_get em (sum_get em ea ed) (sum_get em eb ed), less_get em ea eb,
    ← Int.sub_emod]
  congr 2
  omega
theorem less_self_eq {ms x y : List Int} (hx : TieP ms x) (hy : TieP ms y)
    (h : ∀ (c : Nat) m a b, ms[c]? = some m → x[c]? = some a → y[c]? = some b →
      (a - b) % m = 0) : x = y := by
  refine tie_ext hx.1 hy.1 fun c m em => ?_
  obtain ⟨a, ea, a1, a2⟩ := tget hx em
  obtain ⟨b, eb, b1, b2⟩ := tget hy em
  have := h c m a b em ea eb
  rw [ea, eb]
  congr 1
  rcases Int.le_total b a with z | z
  · rw [Int.emod_eq_of_lt (by omega) (by omega)] at this
    omega
  · rw [← Int.add_emod_right] at this
    rcases Int.lt_or_eq_of_le z with z2 | z2
    · rw [Int.emod_eq_of_lt (by omega) (by omega)] at this
      omega
    · exact z2
theorem sum_cancel {ms x y t : List Int} (hM : MsP ms) (hx : TieP ms x)
    (hy : TieP ms y) (ht : TieP ms t) (h : sumF ms x t = sumF ms y t) : x = y := by
  refine less_self_eq hx hy fun c m a b em ea eb => ?_
  obtain ⟨d, ed, _⟩ := tget ht em
  have e1 := sum_get em ea ed
  have e2 := sum_get em eb ed
  rw [h] at e1
  have e3 := Option.some.inj (e1.symm.trans e2)
  rw [show a - b = (a + d) - (b + d) by omega, Int.sub_emod, e3, Int.sub_self]
  rfl
theorem sum_zero {ms x : List Int} (hM : MsP ms) (hx : TieP ms x) :
    sumF ms x (zt ms) = x := by
  refine tie_ext (sum_tie hM hx (rep_tie hM)).1 hx.1 fun c m em => ?_
  obtain ⟨a, ea, a1, a2⟩ := tget hx em
  rw [sum_get em ea (zt_get em), ea, Int.add_zero, Int.emod_eq_of_lt a1 a2]
/-! ### leads -/
abbrev dnats (L : List Nat) : List D := L.map fun (i : Nat) => D.int (i : Int)
def unats (xs : List D) : List Nat := (uints xs).map Int.toNat
theorem unats_dnats (L : List Nat) : unats (dnats L) = L := by
  have : dnats L = dints (L.map fun (i : Nat) => (i : Int)) := by
    rw [dints, List.map_map]; rfl
  rw [this, unats, uints_dints, List.map_map]
  conv => rhs; rw [← List.map_id L]
  apply List.map_congr_left
  intro i _
  show ((i : Int)).toNat = i
  omega
structure LeadP (hs : List Int) (L : List Nat) : Prop where
  len : L.length = hs.length
  nd : L.Nodup
  hue : ∀ (x y : Nat), L[x]? = some y → y < hs.length ∧ hs[y]? = hs[x]?
theorem nodup_len : ∀ (L M : List Nat), L.Nodup → (∀ x ∈ L, x ∈ M) →
    L.length ≤ M.length
  | [], _, _, _ => Nat.zero_le _
  | x :: L, M, hn, hs => by
    rw [List.nodup_cons] at hn
    have hx := hs x List.mem_cons_self
    have := nodup_len L (M.erase x) hn.2 fun y hy =>
      (List.mem_erase_of_ne (fun (e : y = x) => hn.1 (e ▸ hy))).mpr
        (hs y (List.mem_cons_of_mem _ hy))
    rw [List.length_erase_of_mem hx] at this
    have := List.length_pos_of_mem hx
    simp only [List.length_cons]
    omega
theorem LeadP.surj {hs : List Int} {L : List Nat} (h : LeadP hs L) {c : Nat}
    (hc : c < hs.length) : ∃ b, b < hs.length ∧ L[b]? = some c := by
  have hm : c ∈ L := by
    refine Classical.byContradiction fun hn => ?_
    have := nodup_len (c :: L) (List.range hs.length)
      (List.nodup_cons.mpr ⟨hn, h.nd⟩) fun x hx => by
        rw [List.mem_range]
        rcases List.mem_cons.mp hx with rfl | hx
        · exact hc
        · obtain ⟨i, hi⟩ := List.getElem?_of_mem hx
          exact (h.hue i x hi).1
    rw [List.length_cons, List.length_range, h.len] at this
    omega
  obtain ⟨b, hb⟩ := List.getElem?_of_mem hm
  have := (List.getElem?_eq_some_iff.mp hb).1
  exact ⟨b, by rw [← h.len]; exact this, hb⟩
theorem LeadP.at {hs : List Int} {L : List Nat} (h : LeadP hs L) {b : Nat}
    (hb : b < hs.length) : ∃ c, L[b]? = some c ∧ c < hs.length := by
  have hl := h.len
  obtain ⟨c, hc⟩ : ∃ c, L[b]? = some c := ⟨L[b]'(by omega), List.getElem?_eq_getElem _⟩
  exact ⟨c, hc, (h.hue b c hc).1⟩
theorem LeadP.inj {hs : List Int} {L : List Nat} (h : LeadP hs L) {a b c : Nat}
    (ha : L[a]? = some c) (hb : L[b]? = some c) : a = b :=
  (List.getElem?_inj (List.getElem?_eq_some_iff.mp ha).1 h.nd).mp (ha.trans hb.symm)
theorem dnats_get {L : List Nat} {b c : Nat} (h : L[b]? = some c) :
    (dnats L)[b]? = some (.int (c : Int)) := by
  rw [List.getElem?_map, h]; rfl
theorem natD_of {L : List Nat} {b c : Nat} (h : L[b]? = some c) : L.getD b 0 = c := by
  rw [List.getD_eq_getElem?_getD, h]; rfl
/-! ### places led -/
abbrev Turn := List Nat × List (List (List Int))
abbrev dturn (t : Turn) : D := .tup [.tup (dnats t.1), dtab t.2]
def uturn : D → Turn
  | .tup [.tup xs, t] => (unats xs, utab t)
  | _ => ([], [])
theorem uturn_dturn (t : Turn) : uturn (dturn t) = t := by
  show (unats (dnats t.1), utab (dtab t.2)) = t
  rw [unats_dnats, utab_dtab]
theorem dturn_inj {t u : Turn} (h : dturn t = dturn u) : t = u := by
  have := congrArg uturn h
  rwa [uturn_dturn, uturn_dturn] at this
structure TurnP (ms hs : List Int) (t : Turn) : Prop where
  lead : LeadP hs t.1
  tab : TabP ms hs.length t.2
def ledF (ms : List Int) (L : List Nat) (T : List (List (List Int))) (a : Nat)
    (S : List (List Int)) (i : Nat) : List (List Int) :=
  (List.range i).foldl (fun acc b => if b = a then acc else
    acc.set (L.getD b 0) (sumF ms (S.getD b []) (tabT T a b)))
    (List.replicate L.length (zt ms))
def ledP (ms : List Int) (t : Turn) (p : Spot) : Spot :=
  (t.1.getD p.1 0, ledF ms t.1 t.2 p.1 p.2 p.2.length)
theorem ledF_succ (ms : List Int) (L : List Nat) (T : List (List (List Int)))
    (a : Nat) (S : List (List Int)) (i : Nat) : ledF ms L T a S (i + 1) =
      if i = a then ledF ms L T a S i else (ledF ms L T a S i).set (L.getD i 0)
        (sumF ms (S.getD i []) (tabT T a i)) := by
  unfold ledF
  rw [List.range_succ, List.foldl_append]
  rfl
theorem ledF_len (ms : List Int) (L : List Nat) (T : List (List (List Int)))
    (a : Nat) (S : List (List Int)) (i : Nat) :
    (ledF ms L T a S i).length = L.length := by
  induction i with
  | zero => simp [ledF]
  | succ i ih =>
    rw [ledF_succ]
    split
    · exact ih
    · rw [List.length_set]; exact ih
theorem ledF_get {ms hs : List Int} {L : List Nat} {T : List (List (List Int))}
    {a : Nat} {S : List (List Int)} (hL : LeadP hs L) : ∀ (i : Nat), i ≤ hs.length →
    ∀ b c, L[b]? = some c → (ledF ms L T a S i)[c]? = some (if b < i ∧ b ≠ a then
      sumF ms (S.getD b []) (tabT T a b) else zt ms)
  | 0, _, b, c, hb => by
    have := (hL.hue b c hb).1
    have hl := hL.len
    show (List.replicate L.length (zt ms))[c]? = _
    rw [List.getElem?_replicate, if_pos (by omega), if_neg (by omega)]
  | i + 1, hi, b, c, hb => by
    have ih := ledF_get (ms := ms) (T := T) (a := a) (S := S) hL i (by omega)
    obtain ⟨d, hd, hd2⟩ := hL.at (b := i) (by omega)
    rw [ledF_succ]
    by_cases e : i = a
    · rw [if_pos e, ih b c hb]
      by_cases eb : b < i ∧ b ≠ a
      · rw [if_pos eb, if_pos (by omega)]
      · rw [if_neg eb, if_neg (by omega)]
    · rw [if_neg e, natD_of hd]
      by_cases eb : b = i
      · subst eb
        rw [hd] at hb
        cases hb
        rw [List.getElem?_set_self (by rw [ledF_len, hL.len]; exact hd2),
          if_pos ⟨by omega, e⟩]
      · have hcd : d ≠ c := fun z => eb (by subst z; exact hL.inj hb hd)
        rw [List.getElem?_set_ne hcd, ih b c hb]
        by_cases eb2 : b < i ∧ b ≠ a
        · rw [if_pos eb2, if_pos (by omega)]
        · rw [if_neg eb2, if_neg (by omega)]
theorem led_get {ms hs : List Int} {t : Turn} {a b c : Nat} {S : List (List Int)}
    (ht : TurnP ms hs t) (hS : PlP ms hs.length a S) (hb : t.1[b]? = some c) :
    (ledP ms t (a, S)).2[c]? = some (if b = a then zt ms else
      sumF ms (S.getD b []) (tabT t.2 a b)) := by
  show (ledF ms t.1 t.2 a S S.length)[c]? = _
  have hl := hS.len
  have hl2 := ht.lead.len
  have hb2 := (List.getElem?_eq_some_iff.mp hb).1
  rw [ledF_get ht.lead S.length (by omega) b c hb]
  by_cases e : b = a
  · rw [if_neg (by omega), if_pos e]
  · rw [if_pos ⟨by omega, e⟩, if_neg e]
theorem led_place {ms hs : List Int} {t : Turn} {p : Spot} (hM : MsP ms)
    (ht : TurnP ms hs t) (hS : PlP ms hs.length p.1 p.2) :
    PlP ms hs.length (ledP ms t p).1 (ledP ms t p).2 := by
  obtain ⟨a, S⟩ := p
  obtain ⟨c, hc, hc2⟩ := ht.lead.at hS.lt
  have e1 : (ledP ms t (a, S)).1 = c := natD_of hc
  rw [e1]
  refine ⟨hc2, ?_, fun x hx => ?_, ?_⟩
  · show (ledF ms t.1 t.2 a S S.length).length = _
    rw [ledF_len, ht.lead.len]
  · obtain ⟨d, hd⟩ := List.getElem?_of_mem hx
    have hd2 : d < hs.length := by
      have := (List.getElem?_eq_some_iff.mp hd).1
      rw [← ht.lead.len, ← ledF_len ms t.1 t.2 a S S.length]
      exact this
    obtain ⟨b, hb, hb2⟩ := ht.lead.surj hd2
    rw [led_get ht hS hb2] at hd
    cases hd
    split
    · exact rep_tie hM
    · obtain ⟨y, ey⟩ := says_get hS.len hb
      rw [getD_of ey]
      exact sum_tie hM (hS.tie y (List.mem_of_getElem? ey)) (tabT_tie ht.tab hS.lt hb (by omega))
  · rw [led_get ht hS hc, if_pos rfl]
theorem led_says {ms hs : List Int} {t : Turn} {p : Spot} {b c : Nat}
    (ht : TurnP ms hs t) (hS : PlP ms hs.length p.1 p.2) (hb : t.1[b]? = some c)
    (hn : b ≠ p.1) : (ledP ms t p).2.getD c [] =
      sumF ms (p.2.getD b []) (tabT t.2 p.1 b) := by
  obtain ⟨a, S⟩ := p
  refine getD_of ?_
  rw [led_get ht hS hb, if_neg hn]
theorem led_tie {ms hs : List Int} {t : Turn} {p q : Spot} {c d : Nat} (hM : MsP ms)
    (ht : TurnP ms hs t) (hp : PlP ms hs.length p.1 p.2) (hq : PlP ms hs.length q.1 q.2)
    (hn : p.1 ≠ q.1) (hc : t.1[p.1]? = some c) (hd : t.1[q.1]? = some d) :
    lessF ms ((ledP ms t p).2.getD d []) ((ledP ms t q).2.getD c []) =
      lessF ms (p.2.getD q.1 []) (q.2.getD p.1 []) := by
  rw [led_says ht hp hd (Ne.symm hn), led_says ht hq hc hn, tabT_comm _ _ _ (Ne.symm hn)]
  obtain ⟨x, ex⟩ := says_get hp.len hq.lt
  obtain ⟨y, ey⟩ := says_get hq.len hp.lt
  rw [getD_of ex, getD_of ey]
  exact less_cancel hM (hp.tie x (List.mem_of_getElem? ex))
    (hq.tie y (List.mem_of_getElem? ey)) (tabT_tie ht.tab hp.lt hq.lt hn)
theorem led_stem {ms hs : List Int} {t : Turn} {p q : Spot}
    (ht : TurnP ms hs t) (hp : PlP ms hs.length p.1 p.2) (hq : PlP ms hs.length q.1 q.2) :
    ((ledP ms t p).1 = (ledP ms t q).1) ↔ p.1 = q.1 := by
  obtain ⟨c, hc, _⟩ := ht.lead.at hp.lt
  obtain ⟨d, hd, _⟩ := ht.lead.at hq.lt
  rw [show (ledP ms t p).1 = c from natD_of hc, show (ledP ms t q).1 = d from natD_of hd]
  constructor
  · intro e
    subst e
    exact ht.lead.inj hc hd
  · intro e
    rw [e, hd] at hc
    exact (Option.some.inj hc).symm
theorem led_pt {ms hs : List Int} {t : Turn} {p q : Spot} (hM : MsP ms)
    (ht : TurnP ms hs t) (hp : PlP ms hs.length p.1 p.2) (hq : PlP ms hs.length q.1 q.2) :
    ptF ms (ledP ms t p).1 (ledP ms t p).2 (ledP ms t q).1 (ledP ms t q).2 =
      ptF ms p.1 p.2 q.1 q.2 := by
  have hst := led_stem ht hp hq
  unfold ptF
  by_cases e : p.1 = q.1
  · rw [if_pos e, if_pos (hst.mpr e)]
  · rw [if_neg e, if_neg (fun z => e (hst.mp z))]
    obtain ⟨c, hc, _⟩ := ht.lead.at hp.lt
    obtain ⟨d, hd, _⟩ := ht.lead.at hq.lt
    rw [show (ledP ms t p).1 = c from natD_of hc, show (ledP ms t q).1 = d from natD_of hd,
      led_tie hM ht hp hq e hc hd]
theorem led_inj {ms hs : List Int} {t : Turn} {p q : Spot} (hM : MsP ms)
    (ht : TurnP ms hs t) (hp : PlP ms hs.length p.1 p.2) (hq : PlP ms hs.length q.1 q.2)
    (h : ledP ms t p = ledP ms t q) : p = q := by
  have e1 := (led_stem ht hp hq).mp (by rw [h])
  obtain ⟨a, S⟩ := p
  obtain ⟨b, U⟩ := q
  simp only at e1 hp hq
  subst e1
  congr 1
  refine ext_of_get (by rw [hp.len, hq.len]) fun c x y ex ey => ?_
  have hc : c < hs.length := by
    have := (List.getElem?_eq_some_iff.mp ex).1
    rw [hp.len] at this
    exact this
  by_cases e : c = a
  · subst e
    have h1 := hp.own
    have h2 := hq.own
    rw [ex] at h1
    rw [ey] at h2
    exact (Option.some.inj h1).trans (Option.some.inj h2).symm
  · obtain ⟨d, hd, _⟩ := ht.lead.at hc
    have h1 := led_says (p := (a, S)) ht hp hd e
    have h2 := led_says (p := (a, U)) ht hq hd e
    rw [h] at h1
    have h3 := h1.symm.trans h2
    simp only [getD_of ex, getD_of ey] at h3
    exact sum_cancel hM (hp.tie x (List.mem_of_getElem? ex)) (hq.tie y (List.mem_of_getElem? ey))
      (tabT_tie ht.tab hp.lt hc (Ne.symm e)) h3
def stillT (ms : List Int) (n : Nat) : Turn := (List.range n, constT (zt ms) n)
theorem lead_still (hs : List Int) : LeadP hs (List.range hs.length) := by
  refine ⟨by simp, List.nodup_range, fun x y h => ?_⟩
  have hx := (List.getElem?_eq_some_iff.mp h).1
  rw [List.length_range] at hx
  rw [List.getElem?_range hx] at h
  cases h
  exact ⟨hx, rfl⟩
theorem still_turn {ms hs : List Int} (hM : MsP ms) : TurnP ms hs (stillT ms hs.length) :=
  ⟨lead_still hs, const_tab (rep_tie hM) _⟩
theorem const_tt {t : List Int} {n i j : Nat} (hi : i < n) (hj : j < i) :
    tt (constT t n) i j = t := by
  refine tt_of (r := List.replicate i t) ?_ ?_
  · unfold constT
    rw [List.getElem?_map, List.getElem?_range hi]
    rfl
  · rw [List.getElem?_replicate, if_pos hj]
theorem const_tabT {t : List Int} {n i j : Nat} (hi : i < n) (hj : j < n) (hij : i ≠ j) :
    tabT (constT t n) i j = t := by
  unfold tabT
  split
  · exact const_tt hi (by omega)
  · exact const_tt hj (by omega)
theorem still_led {ms hs : List Int} {p : Spot} (hM : MsP ms)
    (hp : PlP ms hs.length p.1 p.2) : ledP ms (stillT ms hs.length) p = p := by
  obtain ⟨a, S⟩ := p
  have ht := still_turn (hs := hs) hM
  have hlt := hp.lt
  simp only at hlt hp
  have e1 : (ledP ms (stillT ms hs.length) (a, S)).1 = a :=
    natD_of (List.getElem?_range hlt)
  have hP := led_place (p := (a, S)) hM ht hp
  refine Prod.ext e1 ?_
  refine ext_of_get (by rw [hP.len, hp.len]) fun c x y ex ey => ?_
  have hc : c < hs.length := by
    have := (List.getElem?_eq_some_iff.mp ey).1
    rw [hp.len] at this
    exact this
  rw [led_get ht hp (b := c) (List.getElem?_range hc)] at ex
  cases ex
  by_cases e : c = a
  · subst e
    rw [if_pos rfl]
    exact (Option.some.inj (ey.symm.trans hp.own)).symm
  · rw [if_neg e, getD_of ey]
    show sumF ms y (tabT (constT (zt ms) hs.length) a c) = y
    rw [const_tabT hlt hc (Ne.symm e)]
    exact sum_zero hM (hp.tie y (List.mem_of_getElem? ey))

/-! ### what is drawn of orders and turnings -/
def preMix (m : Nat) (ds : List D) : Prop := m < 6000000 ∧ ∃ c xs,
  ds = [c] ∧ c.items = some xs ∧ xs.length ≤ 200 ∧ ∀ x ∈ xs, Num 20 500 x
def psiMix (ds : List D) (m m' : Nat) (es : List D) : Prop := m' ≤ m + 200 ∧
  ∃ c xs, ds = [c] ∧ c.items = some xs ∧ es.Perm xs
theorem erase_perm {α : Type} : ∀ {xs : List α} {k : Nat} {y : α},
    xs[k]? = some y → (y :: xs.eraseIdx k).Perm xs
  | [], _, _, h => by simp at h
  | x :: xs, 0, y, h => by cases h; exact .refl _
  | x :: xs, k + 1, y, h => by
    rw [List.getElem?_cons_succ] at h
    show (y :: x :: xs.eraseIdx k).Perm (x :: xs)
    exact (List.Perm.swap x y _).trans (.cons x (erase_perm h))
def posF (hs : List Int) (g : Int) : List Int :=
  ((List.range hs.length).filter fun i => decide (hs.getD i 0 = g)).map
    fun (i : Nat) => (i : Int)
theorem pos_mem {hs : List Int} {g y : Int} (h : y ∈ posF hs g) :
    ∃ j : Nat, y = j ∧ j < hs.length ∧ hs[j]? = some g := by
  obtain ⟨j, hj, rfl⟩ := List.mem_map.mp h
  rw [List.mem_filter, List.mem_range, decide_eq_true_eq] at hj
  refine ⟨j, rfl, hj.1, ?_⟩
  rw [List.getD_eq_getElem?_getD, List.getElem?_eq_getElem hj.1] at hj
  rw [List.getElem?_eq_getElem hj.1]
  exact congrArg some hj.2
theorem pos_nodup (hs : List Int) (g : Int) : (posF hs g).Nodup := by
  unfold posF
  have h1 : ((List.range hs.length).filter fun i => decide (hs.getD i 0 = g)).Nodup :=
    List.Pairwise.filter _ List.nodup_range
  refine List.Pairwise.map _ (fun a b hab => ?_) h1
  intro e
  exact hab (by omega)
theorem map_getD (hs : List Int) : (List.range hs.length).map (fun i => hs.getD i 0) = hs := by
  refine ext_of_get (by simp) fun i x y e1 e2 => ?_
  have hi := (List.getElem?_eq_some_iff.mp e2).1
  rw [List.getElem?_map, List.getElem?_range hi] at e1
  cases e1
  show hs.getD i 0 = y
  rw [List.getD_eq_getElem?_getD, e2]
  rfl
theorem pos_len (hs : List Int) (g : Int) : (posF hs g).length = hs.count g := by
  unfold posF
  rw [List.length_map, ← List.countP_eq_length_filter]
  conv => rhs; rw [← map_getD hs]
  rw [List.count, List.countP_map]
  congr 1
theorem pop_lead {hs L : List Int} (h : PopR hs (posF hs) L) :
    ∃ L' : List Nat, L = (L'.map fun (i : Nat) => (i : Int)) ∧ LeadP hs L' := by
  obtain ⟨perm, h1, h2, h3⟩ := h
  have key : ∀ (i : Nat) g, hs[i]? = some g → ∃ j : Nat, L[i]? = some (j : Int) ∧
      j < hs.length ∧ hs[j]? = some g ∧
      (perm g)[hs.count g - 1 - (hs.take i).count g]? = some (j : Int) := by
    intro i g hi
    have hg := List.mem_of_getElem? hi
    have hc := count_lt hi
    have hl : (perm g).length = hs.count g := by rw [(h1 g hg).length_eq, pos_len]
    obtain ⟨y, hy⟩ : ∃ y, (perm g)[hs.count g - 1 - (hs.take i).count g]? = some y :=
      ⟨_, List.getElem?_eq_getElem (by omega)⟩
    obtain ⟨j, rfl, j1, j2⟩ := pos_mem ((h1 g hg).mem_iff.mp (List.mem_of_getElem? hy))
    exact ⟨j, (h3 i g hi).trans hy, j1, j2, hy⟩
  have at_ : ∀ i : Nat, i < hs.length → ∃ g, hs[i]? = some g :=
    fun i hi => ⟨hs[i], List.getElem?_eq_getElem hi⟩
  refine ⟨L.map Int.toNat, ?_, ?_⟩
  · rw [List.map_map]
    conv => lhs; rw [← List.map_id L]
    apply List.map_congr_left
    intro y hy
    obtain ⟨i, hi⟩ := List.getElem?_of_mem hy
    have hil := (List.getElem?_eq_some_iff.mp hi).1
    obtain ⟨g, hg⟩ := at_ i (by omega)
    obtain ⟨j, hj, _⟩ := key i g hg
    rw [hi] at hj
    cases hj
    show (j : Int) = (((j : Int).toNat : Nat) : Int)
    omega
  · have get : ∀ (i y : Nat), (L.map Int.toNat)[i]? = some y → i < hs.length ∧
        ∃ g, hs[i]? = some g ∧ y < hs.length ∧ hs[y]? = some g ∧
        (perm g)[hs.count g - 1 - (hs.take i).count g]? = some (y : Int) := by
      intro i y hy
      have hil := (List.getElem?_eq_some_iff.mp hy).1
      rw [List.length_map] at hil
      obtain ⟨g, hg⟩ := at_ i (by omega)
      obtain ⟨j, hj, j1, j2, j3⟩ := key i g hg
      rw [List.getElem?_map, hj] at hy
      have : j = y := by
        have := Option.some.inj hy
        omega
      subst this
      exact ⟨by omega, g, hg, j1, j2, j3⟩
    refine ⟨by simp [h2], ?_, fun x y hx => ?_⟩
    · show List.Pairwise _ _
      rw [List.pairwise_iff_getElem]
      intro i j hi hj hij e
      obtain ⟨i1, g, g1, g2, g3, g4⟩ := get i _ (List.getElem?_eq_getElem hi)
      obtain ⟨j1, g', g1', g2', g3', g4'⟩ := get j _ (List.getElem?_eq_getElem hj)
      rw [← e] at g3' g4'
      rw [g3] at g3'
      cases g3'
      have hg := List.mem_of_getElem? g1
      have nd : (perm g).Nodup := (h1 g hg).nodup_iff.mpr (pos_nodup hs g)
      have hl : (perm g).length = hs.count g := by rw [(h1 g hg).length_eq, pos_len]
      have c1 := count_lt g1
      have c2 := count_lt g1'
      have e2 := (List.getElem?_inj (by omega) nd).mp (g4.trans g4'.symm)
      have c3 := count_take (g := g) g1
      rw [if_pos rfl] at c3
      have c4 : (hs.take (i + 1)).count g ≤ (hs.take j).count g := by
        have : (hs.take (i + 1)) = (hs.take j).take (i + 1) := by
          rw [List.take_take, Nat.min_eq_left (by omega)]
        rw [this]
        exact List.Sublist.count_le _ (List.take_sublist _ _)
      omega
    · obtain ⟨_, g, g1, g2, g3, _⟩ := get x y hx
      exact ⟨g2, g3.trans g1.symm⟩
def preLd (m : Nat) (ds : List D) : Prop := m < 5500000 ∧ ∃ hs,
  ds = [.tup (dints hs)] ∧ hs.length ≤ 16
def psiLd (ds : List D) (m m' : Nat) (d : D) : Prop := m' ≤ m + 3200 ∧
  ∃ hs L, ds = [.tup (dints hs)] ∧ d = .tup (dnats L) ∧ LeadP hs L
def preTg (m : Nat) (ds : List D) : Prop := m < 5000000 ∧ ∃ ms hs,
  ds = [.tup (dints ms), .tup (dints hs)] ∧ MsP ms ∧ hs.length ≤ 16
def psiTg (ds : List D) (m m' : Nat) (d : D) : Prop := m' ≤ m + 5200 ∧
  ∃ ms hs t, ds = [.tup (dints ms), .tup (dints hs)] ∧ d = dturn t ∧ TurnP ms hs t
theorem g_leads {Ψ : Nat → D → Prop} {m : Nat} {hs : List Int} (hm : m < 5500000)
    (hl : hs.length ≤ 16)
    (h : ∀ (m2 : Nat) L, m2 ≤ m + 3200 → LeadP hs L → Ψ m2 (.tup (dnats L))) :
    preLd m [.tup (dints hs)] ∧ ∀ m2 d, psiLd [.tup (dints hs)] m m2 d → Ψ m2 d := by
  refine ⟨⟨hm, hs, rfl, hl⟩, fun m2 d q => ?_⟩
  obtain ⟨h1, hs2, L, e, rfl, h2⟩ := q
  cases tup_inj (List.cons.inj e).1
  exact h m2 L h1 h2
theorem g_turning {Ψ : Nat → D → Prop} {m : Nat} {ms hs : List Int} (hm : m < 5000000)
    (hM : MsP ms) (hl : hs.length ≤ 16)
    (h : ∀ (m2 : Nat) t, m2 ≤ m + 5200 → TurnP ms hs t → Ψ m2 (dturn t)) :
    preTg m [.tup (dints ms), .tup (dints hs)] ∧
      ∀ m2 d, psiTg [.tup (dints ms), .tup (dints hs)] m m2 d → Ψ m2 d := by
  refine ⟨⟨hm, ms, hs, rfl, hM, hl⟩, fun m2 d q => ?_⟩
  obtain ⟨h1, ms2, hs2, t, e, rfl, h2⟩ := q
  cases tup_inj (List.cons.inj e).1
  cases tup_inj (List.cons.inj (List.cons.inj e).2).1
  exact h m2 t h1 h2
def preAt (ds : List D) : Prop := ∃ (ms : List Int) (n : Nat) (T : List (List (List Int)))
  (i j : Nat), ds = [dtab T, .int i, .int j] ∧ TabP ms n T ∧ i < n ∧ j < n ∧ i ≠ j
def fAt : List D → D
  | [t, .int i, .int j] => .tup (dints (tabT (utab t) i.toNat j.toNat))
  | _ => .non
theorem fAt_is (T : List (List (List Int))) (i j : Nat) :
    fAt [dtab T, .int i, .int j] = .tup (dints (tabT T i j)) := by
  show D.tup (dints (tabT (utab (dtab T)) (i : Int).toNat (j : Int).toNat)) = _
  rw [utab_dtab, Int.toNat_natCast, Int.toNat_natCast]
def preLe (ds : List D) : Prop := ∃ ms hs t p, ds = [.tup (dints ms), dturn t, dspot p] ∧
  MsP ms ∧ hs.length ≤ 16 ∧ TurnP ms hs t ∧ PlP ms hs.length p.1 p.2
def fLe : List D → D
  | [.tup ms, t, p] => dspot (ledP (uints ms) (uturn t) (uspot p))
  | _ => .non
theorem fLe_is (ms : List Int) (t : Turn) (p : Spot) :
    fLe [.tup (dints ms), dturn t, dspot p] = dspot (ledP ms t p) := by
  show dspot (ledP (uints (dints ms)) (uturn (dturn t)) (uspot (dspot p))) = _
  rw [uints_dints, uturn_dturn, uspot_dspot]
def preLp (C : Addr) (ds : List D) : Prop := ∃ ms hs t p,
  ds = [frD C ms hs, dturn t, dspot p] ∧
  MsP ms ∧ hs.length ≤ 16 ∧ TurnP ms hs t ∧ PlP ms hs.length p.1 p.2
def fLp : List D → D
  | [.ins _ _ [.tup ms, _], t, p] => dspot (ledP (uints ms) (uturn t) (uspot p))
  | _ => .non
theorem fLp_is (C : Addr) (ms hs : List Int) (t : Turn) (p : Spot) :
    fLp [frD C ms hs, dturn t, dspot p] = dspot (ledP ms t p) := by
  show dspot (ledP (uints (dints ms)) (uturn (dturn t)) (uspot (dspot p))) = _
  rw [uints_dints, uturn_dturn, uspot_dspot]
def preFr (C : Addr) (ds : List D) : Prop := ∃ ms hs, ds = [frD C ms hs] ∧ MsP ms ∧
  hs.length ≤ 16
def fEv : List D → D
  | [.ins _ _ [.tup ms, .tup hs]] => dtab (constT (zt (uints ms)) hs.length)
  | _ => .non
theorem fEv_is (C : Addr) (ms hs : List Int) :
    fEv [frD C ms hs] = dtab (constT (zt ms) hs.length) := by
  show dtab (constT (zt (uints (dints ms))) (dints hs).length) = _
  rw [uints_dints, dints_length]
def fSt : List D → D
  | [.ins _ _ [.tup ms, .tup hs]] => dturn (stillT (uints ms) hs.length)
  | _ => .non
theorem fSt_is (C : Addr) (ms hs : List Int) :
    fSt [frD C ms hs] = dturn (stillT ms hs.length) := by
  show dturn (stillT (uints (dints ms)) (dints hs).length) = _
  rw [uints_dints, dints_length]
def preLs (ds : List D) : Prop := ∃ ms, ∃ n : Nat, ds = [.tup (dints ms), .int n] ∧ MsP ms ∧ n ≤ 16
def fLs : List D → D
  | [.tup ms, .int n] => dturn (stillT (uints ms) n.toNat)
  | _ => .non
theorem fLs_is (ms : List Int) (n : Nat) :
    fLs [.tup (dints ms), .int n] = dturn (stillT ms n) := by
  show dturn (stillT (uints (dints ms)) (n : Int).toNat) = _
  rw [uints_dints, Int.toNat_natCast]
theorem const_dtab (t : List Int) (n : Nat) : dtab (constT t n) =
    .tup ((List.range n).map fun i => .tup (List.replicate i (.tup (dints t)))) := by
  show D.tup (((List.range n).map fun i => List.replicate i t).map _) = _
  rw [List.map_map]
  congr 1
  apply List.map_congr_left
  intro i _
  show D.tup ((List.replicate i t).map _) = _
  rw [List.map_replicate]
theorem num_nats {L : List Nat} (hl : L.length ≤ 16) (h : ∀ i ∈ L, i ≤ 16) :
    Num 1 256 (.tup (dnats L)) := by
  refine (Num.tup (k := 0) (w := 15) fun x hx => ?_).up (by omega) ?_
  · obtain ⟨i, hi, rfl⟩ := List.mem_map.mp hx
    have := h i hi
    exact num_int (by omega) (by omega)
  · rw [List.length_map]; omega
theorem TurnP.num {ms hs : List Int} {t : Turn} (h : TurnP ms hs t) (hM : MsP ms)
    (hn : hs.length ≤ 16) : Num 4 32002 (dturn t) := by
  have h1 : Num 1 256 (.tup (dnats t.1)) := num_nats (by rw [h.lead.len]; exact hn) fun i hi => by
    obtain ⟨x, hx⟩ := List.getElem?_of_mem hi
    have := (h.lead.hue x i hx).1
    omega
  have h2 := TabP.num hM hn h.tab
  refine (Num.tup (k := 3) (w := 16000) fun x hx => ?_).up (by omega) (by simp)
  simp only [List.mem_cons, List.not_mem_nil, or_false] at hx
  rcases hx with rfl | rfl
  · exact h1.up (by omega) (by omega)
  · exact h2
theorem num_spots {ms : List Int} {n : Nat} {L : List Spot} (hM : MsP ms)
    (hn : n ≤ 17) (hl : L.length ≤ 40) (h : ∀ p ∈ L, PlP ms n p.1 p.2) :
    Num 4 68040 (.lst (L.map dspot)) := by
  refine (Num.lst (k := 3) (w := 1700) fun x hx => ?_).up (by omega) ?_
  · obtain ⟨p, hp, rfl⟩ := List.mem_map.mp hx
    exact (h p hp).num hM hn
  · rw [List.length_map]
    omega

theorem perm_ints {es : List D} {ns : List Int} (h : es.Perm (dints ns)) :
    ∃ L : List Int, es = L.map D.int ∧ L.Perm ns := by
  refine ⟨uints es, ?_, ?_⟩
  · obtain ⟨L, e, _⟩ := dmap_of (g := D.int) (ys := es) (P := fun _ _ => True) fun i y hy => by
      obtain ⟨n, _, rfl⟩ := List.mem_map.mp (h.mem_iff.mp (List.mem_of_getElem? hy))
      exact ⟨n, rfl, trivial⟩
    have : uints es = L := by rw [e]; exact uints_dints L
    rw [this]; exact e
  · have key : ∀ xs ys : List D, xs.Perm ys → (∀ y ∈ ys, ∃ n, y = .int n) → (uints xs).Perm (uints ys) := by
      intro xs ys hp
      induction hp with
      | nil => intro _; exact .refl _
      | cons x _ ih =>
        intro hy
        obtain ⟨n, rfl⟩ := hy x List.mem_cons_self
        exact .cons n (ih fun y h => hy y (List.mem_cons_of_mem _ h))
      | swap x y l =>
        intro hy
        obtain ⟨n, rfl⟩ := hy x List.mem_cons_self
        obtain ⟨k, rfl⟩ := hy y (List.mem_cons_of_mem _ List.mem_cons_self)
        exact .swap n k _
      | trans h1 h2 ih1 ih2 =>
        intro hy
        exact (ih1 fun y h => hy y (h2.mem_iff.mp h)).trans (ih2 hy)
    have := key es (dints ns) h fun y hy => by
      obtain ⟨n, _, rfl⟩ := List.mem_map.mp hy
      exact ⟨n, rfl⟩
    rwa [uints_dints] at this

def cutG {α : Type} (xs : List α) (lo hi : Option Int) : List α :=
  (xs.drop (HT.sIx xs.length 0 lo)).take
    (HT.sIx xs.length xs.length hi - HT.sIx xs.length 0 lo)
theorem cutD_map {α : Type} (xs : List α) (g : α → D) (lo hi : Option Int) :
    Wt.cutD (xs.map g) lo hi = (cutG xs lo hi).map g := by
  unfold Wt.cutD cutG
  rw [List.length_map, ← List.map_drop, ← List.map_take]
theorem cutG_map {α β : Type} (xs : List α) (g : α → β) (lo hi : Option Int) :
    cutG (xs.map g) lo hi = (cutG xs lo hi).map g := by
  unfold cutG
  rw [List.length_map, ← List.map_drop, ← List.map_take]
theorem cutG_mem {α : Type} {xs : List α} {lo hi : Option Int} {x : α}
    (h : x ∈ cutG xs lo hi) : x ∈ xs :=
  List.mem_of_mem_drop (List.mem_of_mem_take h)
theorem map_get {α : Type} {xs : List α} {g : α → D} {i : Nat} {d : D}
    (h : (xs.map g)[i]? = some d) : ∃ x, xs[i]? = some x ∧ d = g x := by
  rw [List.getElem?_map] at h
  cases e : xs[i]? with
  | none => rw [e] at h; cases h
  | some x => rw [e] at h; exact ⟨x, rfl, (Option.some.inj h).symm⟩

theorem num_pt {ms : List Int} {n a b : Nat} {S U : List (List Int)} (hM : MsP ms)
    (h1 : PlP ms n a S) (h2 : PlP ms n b U) : Num 1 48 (ptF ms a S b U) := by
  unfold ptF
  split
  · exact (⟨⟨rfl, rfl, by decide, rfl, by decide⟩, rfl⟩ : Num 0 15 .non).up (by omega) (by omega)
  · obtain ⟨x, ex⟩ := says_get h1.len h2.lt
    obtain ⟨y, ey⟩ := says_get h2.len h1.lt
    rw [getD_of ex, getD_of ey]
    exact (less_tie hM (h1.tie x (List.mem_of_getElem? ex)) (h2.tie y (List.mem_of_getElem? ey))).num hM
theorem dspot_inj {p q : Spot} (h : dspot p = dspot q) : p = q := by
  have := congrArg uspot h
  rwa [uspot_dspot, uspot_dspot] at this
theorem dec_stem {a b : Nat} : decide ((a : Int) = (b : Int)) = decide (a = b) := by
  simp only [decide_eq_decide]; omega

/-! ### turnings put together -/
theorem sum_assoc {ms x y z : List Int} (hM : MsP ms) (hx : TieP ms x)
    (hy : TieP ms y) (hz : TieP ms z) :
    sumF ms (sumF ms x y) z = sumF ms x (sumF ms y z) := by
  refine tie_ext (sum_tie hM (sum_tie hM hx hy) hz).1
    (sum_tie hM hx (sum_tie hM hy hz)).1 fun c m em => ?_
  obtain ⟨a, ea, _⟩ := tget hx em
  obtain ⟨b, eb, _⟩ := tget hy em
  obtain ⟨d, ed, _⟩ := tget hz em
  rw [sum_get em (sum_get em ea eb) ed, sum_get em ea (sum_get em eb ed)]
  congr 1
  rw [Int.add_emod, Int.emod_emod, ← Int.add_emod, Int.add_emod a, Int.emod_emod,
    ← Int.add_emod, Int.add_assoc]
theorem sum_neg {ms x : List Int} (hM : MsP ms) (hx : TieP ms x) :
    sumF ms x (negF ms x) = zt ms := by
  have hn := less_tie hM (rep_tie hM) hx
  refine tie_ext (sum_tie hM hx hn).1 (by simp) fun c m em => ?_
  obtain ⟨a, ea, _⟩ := tget hx em
  have e2 : (negF ms x)[c]? = some ((0 - a) % m) := less_get em (zt_get em) ea
  rw [sum_get em ea e2, zt_get em]
  congr 1
  rw [Int.add_emod, Int.emod_emod, ← Int.add_emod, show a + (0 - a) = 0 by omega]
  rfl
theorem sum_comm {ms x y : List Int} (hM : MsP ms) (hx : TieP ms x)
    (hy : TieP ms y) : sumF ms x y = sumF ms y x := by
  refine tie_ext (sum_tie hM hx hy).1 (sum_tie hM hy hx).1 fun c m em => ?_
  obtain ⟨a, ea, _⟩ := tget hx em
  obtain ⟨b, eb, _⟩ := tget hy em
  rw [sum_get em ea eb, sum_get em eb ea, Int.add_comm]
/-- a table by a function of greater and lesser stem -/
def mkT (n : Nat) (f : Nat → Nat → List Int) : List (List (List Int)) :=
  (List.range n).map fun i => (List.range i).map fun j => f i j
theorem mkT_row {n : Nat} {f : Nat → Nat → List Int} {i : Nat} (hi : i < n) :
    (mkT n f)[i]? = some ((List.range i).map fun j => f i j) := by
  unfold mkT
  rw [List.getElem?_map, List.getElem?_range hi]; rfl
theorem mkT_tt {n : Nat} {f : Nat → Nat → List Int} {i j : Nat} (hi : i < n)
    (hj : j < i) : tt (mkT n f) i j = f i j :=
  tt_of (mkT_row hi) (by rw [List.getElem?_map, List.getElem?_range hj]; rfl)
theorem tabT_gt {T : List (List (List Int))} {i j : Nat} (h : j < i) :
    tabT T i j = tt T i j := if_pos h
theorem tabT_le {T : List (List (List Int))} {i j : Nat} (h : ¬ j < i) :
    tabT T i j = tt T j i := if_neg h
theorem mkT_tab {ms : List Int} {n : Nat} {f : Nat → Nat → List Int}
    (h : ∀ i j, i < n → j < i → TieP ms (f i j)) : TabP ms n (mkT n f) := by
  refine ⟨by simp [mkT], fun i r e => ?_⟩
  have hi : i < n := by
    have := (List.getElem?_eq_some_iff.mp e).1
    simpa [mkT] using this
  rw [mkT_row hi] at e
  cases e
  refine ⟨by simp, fun t ht => ?_⟩
  obtain ⟨j, hj, rfl⟩ := List.mem_map.mp ht
  exact h i j hi (List.mem_range.mp hj)
theorem tab_ext {ms : List Int} {n : Nat} {T U : List (List (List Int))}
    (h : TabP ms n T) (h' : TabP ms n U)
    (e : ∀ i j, i < n → j < i → tt T i j = tt U i j) : T = U := by
  refine ext_of_get (by rw [h.1, h'.1]) fun i r r' e1 e2 => ?_
  have hi : i < n := by
    have := (List.getElem?_eq_some_iff.mp e1).1
    rw [h.1] at this
    exact this
  have h1 := h.2 i r e1
  have h2 := h'.2 i r' e2
  refine ext_of_get (by rw [h1.1, h2.1]) fun j t t' e3 e4 => ?_
  have hj : j < i := by
    have := (List.getElem?_eq_some_iff.mp e3).1
    omega
  have := e i j hi hj
  rwa [tt_of e1 e3, tt_of e2 e4] at this
def behT (ms : List Int) (t u : Turn) : Turn :=
  (t.1.map fun c => u.1.getD c 0, mkT t.1.length fun i j =>
    sumF ms (tt t.2 i j) (tabT u.2 (t.1.getD i 0) (t.1.getD j 0)))
theorem LeadP.ne {hs : List Int} {L : List Nat} (h : LeadP hs L) {a b c d : Nat}
    (ha : L[a]? = some c) (hb : L[b]? = some d) (hn : a ≠ b) : c ≠ d := by
  intro e
  subst e
  exact hn (h.inj ha hb)
theorem beh_lead {ms hs : List Int} {t u : Turn} (ht : TurnP ms hs t)
    (hu : TurnP ms hs u) : LeadP hs (behT ms t u).1 := by
  have hl := ht.lead.len
  have at_ : ∀ x y : Nat, (behT ms t u).1[x]? = some y → ∃ c, t.1[x]? = some c ∧
      u.1[c]? = some y := by
    intro x y e
    have e : (t.1.map fun c => u.1.getD c 0)[x]? = some y := e
    rw [List.getElem?_map] at e
    cases ec : t.1[x]? with
    | none => rw [ec] at e; cases e
    | some c =>
      rw [ec] at e
      obtain ⟨d, hd, _⟩ := hu.lead.at (ht.lead.hue x c ec).1
      refine ⟨c, rfl, ?_⟩
      rw [hd]
      have : u.1.getD c 0 = y := Option.some.inj e
      rw [natD_of hd] at this
      rw [this]
  refine ⟨by show (t.1.map _).length = _; rw [List.length_map, hl], ?_, fun x y e => ?_⟩
  · show List.Pairwise _ _
    rw [List.pairwise_iff_getElem]
    intro i j hi hj hij e
    obtain ⟨c, c1, c2⟩ := at_ i _ (List.getElem?_eq_getElem hi)
    obtain ⟨d, d1, d2⟩ := at_ j _ (List.getElem?_eq_getElem hj)
    rw [← e] at d2
    have := hu.lead.inj c2 d2
    subst this
    have := ht.lead.inj c1 d1
    omega
  · obtain ⟨c, c1, c2⟩ := at_ x y e
    have h1 := hu.lead.hue c y c2
    exact ⟨h1.1, h1.2.trans (ht.lead.hue x c c1).2⟩
theorem beh_turn {ms hs : List Int} {t u : Turn} (hM : MsP ms) (ht : TurnP ms hs t)
    (hu : TurnP ms hs u) : TurnP ms hs (behT ms t u) := by
  refine ⟨beh_lead ht hu, ?_⟩
  show TabP ms hs.length (mkT t.1.length _)
  rw [ht.lead.len]
  refine mkT_tab fun i j hi hj => ?_
  obtain ⟨c, hc, hc2⟩ := ht.lead.at hi
  obtain ⟨d, hd, hd2⟩ := ht.lead.at (b := j) (by omega)
  rw [natD_of hc, natD_of hd]
  exact sum_tie hM (tt_tie ht.tab hi hj)
    (tabT_tie hu.tab hc2 hd2 (ht.lead.ne hc hd (by omega)))
theorem beh_tab {ms hs : List Int} {t u : Turn} {i j c d : Nat} (ht : TurnP ms hs t)
    (hi : t.1[i]? = some c) (hj : t.1[j]? = some d) (hij : i ≠ j) :
    tabT (behT ms t u).2 i j = sumF ms (tabT t.2 i j) (tabT u.2 c d) := by
  have hi2 := (List.getElem?_eq_some_iff.mp hi).1
  have hj2 := (List.getElem?_eq_some_iff.mp hj).1
  show tabT (mkT t.1.length _) i j = _
  by_cases e : j < i
  · rw [tabT_gt e, tabT_gt e, mkT_tt hi2 e, natD_of hi, natD_of hj]
  · rw [tabT_le e, tabT_le e, mkT_tt hj2 (by omega), natD_of hi, natD_of hj,
      tabT_comm _ _ _ (ht.lead.ne hj hi (Ne.symm hij))]
theorem beh_led {ms hs : List Int} {t u : Turn} {p : Spot} (hM : MsP ms)
    (ht : TurnP ms hs t) (hu : TurnP ms hs u) (hp : PlP ms hs.length p.1 p.2) :
    ledP ms (behT ms t u) p = ledP ms u (ledP ms t p) := by
  have hb := beh_turn hM ht hu
  have h1 := led_place hM ht hp
  have h2 := led_place hM hu h1
  have h3 := led_place hM hb hp
  obtain ⟨c, hc, hc2⟩ := ht.lead.at hp.lt
  obtain ⟨e, he, he2⟩ := hu.lead.at hc2
  have hbe : ∀ b d x : Nat, t.1[b]? = some d → u.1[d]? = some x →
      (behT ms t u).1[b]? = some x := by
    intro b d x h4 h5
    show (t.1.map fun c => u.1.getD c 0)[b]? = some x
    rw [List.getElem?_map, h4]
    show some (u.1.getD d 0) = some x
    rw [natD_of h5]
  have e1 : (ledP ms t p).1 = c := natD_of hc
  have e2 : (ledP ms u (ledP ms t p)).1 = e := by
    show u.1.getD (ledP ms t p).1 0 = e
    rw [e1]; exact natD_of he
  have e3 : (ledP ms (behT ms t u) p).1 = e := natD_of (hbe _ _ _ hc he)
  refine Prod.ext (e3.trans e2.symm) ?_
  refine ext_of_get (by rw [h3.len, h2.len]) fun x y z ey ez => ?_
  have hx : x < hs.length := by
    have := (List.getElem?_eq_some_iff.mp ey).1
    rw [h3.len] at this
    exact this
  obtain ⟨d, hd, hd2⟩ := hu.lead.surj hx
  obtain ⟨b, hb1, hb2⟩ := ht.lead.surj hd
  have f1 := led_get (a := p.1) (S := p.2) hb hp (hbe b d x hb2 hd2)
  have f2 := led_get (a := (ledP ms t p).1) (S := (ledP ms t p).2) hu h1 hd2
  rw [show ledP ms (behT ms t u) (p.1, p.2) = ledP ms (behT ms t u) p from rfl, ey] at f1
  rw [show ledP ms u ((ledP ms t p).1, (ledP ms t p).2) = ledP ms u (ledP ms t p) from rfl, ez] at f2
  rw [Option.some.inj f1, Option.some.inj f2, e1]
  by_cases eb : b = p.1
  · subst eb
    rw [hc] at hb2
    rw [if_pos rfl, if_pos (Option.some.inj hb2).symm]
  · have hdc : d ≠ c := ht.lead.ne hb2 hc eb
    rw [if_neg eb, if_neg hdc, led_says ht hp hb2 eb, beh_tab ht hc hb2 (Ne.symm eb)]
    obtain ⟨w, ew⟩ := says_get hp.len hb1
    rw [getD_of ew]
    exact (sum_assoc hM (hp.tie w (List.mem_of_getElem? ew))
      (tabT_tie ht.tab hp.lt hb1 (Ne.symm eb)) (tabT_tie hu.tab hc2 hd (Ne.symm hdc))).symm
/-- a turning is known by where it leads -/
theorem turn_ext {ms hs : List Int} {t u : Turn} (ht : TurnP ms hs t) (hu : TurnP ms hs u)
    (h1 : t.1 = u.1) (h2 : ∀ i j, i < hs.length → j < i → tt t.2 i j = tt u.2 i j) : t = u :=
  Prod.ext h1 (tab_ext ht.tab hu.tab h2)
/-! back -/
def invL (n : Nat) (L : List Nat) : List Nat := (List.range n).map fun i => L.idxOf i
def backT (ms : List Int) (t : Turn) : Turn :=
  (invL t.1.length t.1, mkT t.1.length fun i j =>
    negF ms (tabT t.2 (t.1.idxOf i) (t.1.idxOf j)))
theorem LeadP.idx {hs : List Int} {L : List Nat} (h : LeadP hs L) {i : Nat}
    (hi : i < hs.length) : L[L.idxOf i]? = some i ∧ L.idxOf i < hs.length := by
  obtain ⟨b, hb, hb2⟩ := h.surj hi
  have hm := List.mem_of_getElem? hb2
  have hl : L.idxOf i < L.length := List.idxOf_lt_length_of_mem hm
  refine ⟨?_, by rw [← h.len]; exact hl⟩
  rw [List.getElem?_eq_getElem hl, List.getElem_idxOf]
theorem inv_get {n : Nat} {L : List Nat} {i : Nat} (hi : i < n) :
    (invL n L)[i]? = some (L.idxOf i) := by
  unfold invL
  rw [List.getElem?_map, List.getElem?_range hi]; rfl
theorem back_lead {hs : List Int} {L : List Nat} (h : LeadP hs L) :
    LeadP hs (invL L.length L) := by
  rw [h.len]
  have at_ : ∀ x y : Nat, (invL hs.length L)[x]? = some y → x < hs.length ∧ L[y]? = some x := by
    intro x y e
    have hx : x < hs.length := by
      have := (List.getElem?_eq_some_iff.mp e).1
      simpa [invL] using this
    rw [inv_get hx] at e
    cases e
    exact ⟨hx, (h.idx hx).1⟩
  refine ⟨by simp [invL], ?_, fun x y e => ?_⟩
  · show List.Pairwise _ _
    rw [List.pairwise_iff_getElem]
    intro i j hi hj hij e
    have h1 := (at_ i _ (List.getElem?_eq_getElem hi)).2
    have h2 := (at_ j _ (List.getElem?_eq_getElem hj)).2
    rw [← e, h1] at h2
    have := Option.some.inj h2
    omega
  · obtain ⟨h1, h2⟩ := at_ x y e
    have hy : y < hs.length := by
      have := (List.getElem?_eq_some_iff.mp h2).1
      rw [h.len] at this
      exact this
    exact ⟨hy, (h.hue y x h2).2.symm⟩
theorem back_turn {ms hs : List Int} {t : Turn} (hM : MsP ms) (ht : TurnP ms hs t) :
    TurnP ms hs (backT ms t) := by
  refine ⟨back_lead ht.lead, ?_⟩
  show TabP ms hs.length (mkT t.1.length _)
  rw [ht.lead.len]
  refine mkT_tab fun i j hi hj => ?_
  have h1 := ht.lead.idx hi
  have h2 := ht.lead.idx (i := j) (by omega)
  refine less_tie hM (rep_tie hM) (tabT_tie ht.tab h1.2 h2.2 fun e => ?_)
  rw [e, h2.1] at h1
  have := Option.some.inj h1.1
  omega
theorem beh_back {ms hs : List Int} {t : Turn} (hM : MsP ms) (ht : TurnP ms hs t) :
    behT ms t (backT ms t) = stillT ms hs.length := by
  have hb := back_turn hM ht
  refine turn_ext (beh_turn hM ht hb) (still_turn hM) ?_ fun i j hi hj => ?_
  · show (t.1.map fun c => (invL t.1.length t.1).getD c 0) = List.range hs.length
    refine ext_of_get (by simp [ht.lead.len]) fun x y z e1 e2 => ?_
    rw [List.getElem?_map] at e1
    cases ec : t.1[x]? with
    | none => rw [ec] at e1; cases e1
    | some c =>
      rw [ec] at e1
      have hc := (ht.lead.hue x c ec).1
      have hx : x < hs.length := by
        have := (List.getElem?_eq_some_iff.mp ec).1
        rw [ht.lead.len] at this
        exact this
      rw [List.getElem?_range hx] at e2
      cases e2
      have e3 : (invL t.1.length t.1).getD c 0 = y := Option.some.inj e1
      rw [natD_of (inv_get (by rw [ht.lead.len]; exact hc))] at e3
      rw [← e3]
      exact ht.lead.inj (ht.lead.idx hc).1 ec
  · obtain ⟨c, hc, hc2⟩ := ht.lead.at hi
    obtain ⟨d, hd, hd2⟩ := ht.lead.at (b := j) (by omega)
    have hcd : c ≠ d := ht.lead.ne hc hd (by omega)
    have e1 : tt (behT ms t (backT ms t)).2 i j = tabT (behT ms t (backT ms t)).2 i j := by
      rw [tabT, if_pos hj]
    rw [e1, beh_tab ht hc hd (by omega)]
    have ic : t.1.idxOf c = i := ht.lead.inj (ht.lead.idx hc2).1 hc
    have id : t.1.idxOf d = j := ht.lead.inj (ht.lead.idx hd2).1 hd
    have e2 : tabT (backT ms t).2 c d = negF ms (tabT t.2 i j) := by
      show tabT (mkT t.1.length _) c d = _
      rw [ht.lead.len]
      by_cases e : d < c
      · rw [tabT_gt e, mkT_tt hc2 e, ic, id]
      · rw [tabT_le e, mkT_tt hd2 (by omega), ic, id, tabT_comm _ _ _ (by omega)]
    rw [e2, sum_neg hM (tabT_tie ht.tab hi (j := j) (by omega) (by omega))]
    exact (const_tt hi hj).symm
theorem LeadP.still_beh {ms hs : List Int} {t : Turn} (hM : MsP ms) (ht : TurnP ms hs t) :
    behT ms t (stillT ms hs.length) = t := by
  refine turn_ext (beh_turn hM ht (still_turn hM)) ht ?_ fun i j hi hj => ?_
  · show (t.1.map fun c => (List.range hs.length).getD c 0) = t.1
    conv => rhs; rw [← List.map_id t.1]
    apply List.map_congr_left
    intro c hc
    obtain ⟨x, hx⟩ := List.getElem?_of_mem hc
    exact natD_of (List.getElem?_range (ht.lead.hue x c hx).1)
  · obtain ⟨c, hc, hc2⟩ := ht.lead.at hi
    obtain ⟨d, hd, hd2⟩ := ht.lead.at (b := j) (by omega)
    have e1 : tt (behT ms t (stillT ms hs.length)).2 i j = tabT (behT ms t (stillT ms hs.length)).2 i j := by
      rw [tabT, if_pos hj]
    rw [e1, beh_tab ht hc hd (by omega)]
    show sumF ms (tabT t.2 i j) (tabT (constT (zt ms) hs.length) c d) = _
    rw [const_tabT hc2 hd2 (ht.lead.ne hc hd (by omega)),
      sum_zero hM (tabT_tie ht.tab hi (j := j) (by omega) (by omega)), tabT, if_pos hj]

def preBh (C : Addr) (ds : List D) : Prop := ∃ ms hs t u,
  ds = [frD C ms hs, dturn t, dturn u] ∧ MsP ms ∧ hs.length ≤ 16 ∧
  TurnP ms hs t ∧ TurnP ms hs u
def fBh : List D → D
  | [.ins _ _ [.tup ms, _], t, u] => dturn (behT (uints ms) (uturn t) (uturn u))
  | _ => .non
theorem fBh_is (C : Addr) (ms hs : List Int) (t u : Turn) :
    fBh [frD C ms hs, dturn t, dturn u] = dturn (behT ms t u) := by
  show dturn (behT (uints (dints ms)) (uturn (dturn t)) (uturn (dturn u))) = _
  rw [uints_dints, uturn_dturn, uturn_dturn]
def behRow (ms : List Int) (t u : Turn) (i : Nat) : List (List Int) :=
  (List.range i).map fun j => sumF ms (tt t.2 i j) (tabT u.2 (t.1.getD i 0) (t.1.getD j 0))
def preMb (C : Addr) (ds : List D) : Prop := ∃ ms hs t u, ∃ i : Nat,
  ds = [frD C ms hs, dturn t, dturn u, .int i] ∧ MsP ms ∧ hs.length ≤ 16 ∧
  TurnP ms hs t ∧ TurnP ms hs u ∧ i < hs.length
def fMb : List D → D
  | [.ins _ _ [.tup ms, _], t, u, .int i] =>
    dsays (behRow (uints ms) (uturn t) (uturn u) i.toNat)
  | _ => .non
theorem fMb_is (C : Addr) (ms hs : List Int) (t u : Turn) (i : Nat) :
    fMb [frD C ms hs, dturn t, dturn u, .int i] = dsays (behRow ms t u i) := by
  show dsays (behRow (uints (dints ms)) (uturn (dturn t)) (uturn (dturn u)) (i : Int).toNat) = _
  rw [uints_dints, uturn_dturn, uturn_dturn, Int.toNat_natCast]
def preTb (C : Addr) (ds : List D) : Prop := ∃ ms hs t,
  ds = [frD C ms hs, dturn t] ∧ MsP ms ∧ hs.length ≤ 16 ∧ TurnP ms hs t
def fTb : List D → D
  | [.ins _ _ [.tup ms, _], t] => dturn (backT (uints ms) (uturn t))
  | _ => .non
theorem fTb_is (C : Addr) (ms hs : List Int) (t : Turn) :
    fTb [frD C ms hs, dturn t] = dturn (backT ms t) := by
  show dturn (backT (uints (dints ms)) (uturn (dturn t))) = _
  rw [uints_dints, uturn_dturn]
def backRow (ms : List Int) (T : List (List (List Int))) (L : List Nat) (i : Nat) :
    List (List Int) :=
  (List.range i).map fun j => negF ms (tabT T (L.getD i 0) (L.getD j 0))
def preKb (C : Addr) (ds : List D) : Prop := ∃ ms hs T L, ∃ i : Nat,
  ds = [frD C ms hs, dtab T, .tup (dnats L), .int i] ∧ MsP ms ∧ hs.length ≤ 16 ∧
  TabP ms hs.length T ∧ LeadP hs L ∧ i < hs.length
def fKb : List D → D
  | [.ins _ _ [.tup ms, _], t, .tup l, .int i] =>
    dsays (backRow (uints ms) (utab t) (unats l) i.toNat)
  | _ => .non
theorem fKb_is (C : Addr) (ms hs : List Int) (T : List (List (List Int))) (L : List Nat) (i : Nat) :
    fKb [frD C ms hs, dtab T, .tup (dnats L), .int i] = dsays (backRow ms T L i) := by
  show dsays (backRow (uints (dints ms)) (utab (dtab T)) (unats (dnats L)) (i : Int).toNat) = _
  rw [uints_dints, utab_dtab, unats_dnats, Int.toNat_natCast]
theorem row_get {T : List (List (List Int))} {i : Nat} {r : List (List Int)}
    (h : T[i]? = some r) : (T.map fun r => D.tup (r.map fun t => D.tup (dints t)))[i]? =
      some (D.tup (r.map fun t => D.tup (dints t))) := by
  rw [List.getElem?_map, h]; rfl

/-! ### tables and turnings among anything -/
noncomputable def cB (p : Prop) : Bool := @decide p (Classical.propDecidable p)
theorem cB_true {p : Prop} (h : p) : cB p = true := by
  unfold cB; exact @decide_eq_true p (Classical.propDecidable p) h
theorem cB_false {p : Prop} (h : ¬ p) : cB p = false := by
  unfold cB; exact @decide_eq_false p (Classical.propDecidable p) h
theorem cB_eq {p : Prop} {b : Bool} (h : b = true ↔ p) : b = cB p := by
  cases b with
  | true => exact (cB_true (h.mp rfl)).symm
  | false => exact (cB_false fun z => by have := h.mpr z; cases this).symm
def isTab (ms : List Int) (n : Nat) (d : D) : Prop := ∃ T, d = dtab T ∧ TabP ms n T
noncomputable def fIt : List D → D
  | [.ins _ _ [.tup ms, .tup hs], d] => .bl (cB (isTab (uints ms) hs.length d))
  | _ => .non
theorem fIt_is (C : Addr) (ms hs : List Int) (d : D) :
    fIt [frD C ms hs, d] = .bl (cB (isTab ms hs.length d)) := by
  show D.bl (cB (isTab (uints (dints ms)) (dints hs).length d)) = _
  rw [uints_dints, dints_length]
theorem isTab_iff {ms : List Int} {n : Nat} {xs : List D} (hl : xs.length = n) :
    ((xs.mapIdx fun i r => tiesB ms i r).all id = true) ↔ isTab ms n (.tup xs) := by
  rw [List.all_eq_true]
  constructor
  · intro h
    obtain ⟨T, rfl, hT⟩ := dmap_of (g := fun r : List (List Int) => D.tup (r.map fun t => .tup (dints t)))
      (ys := xs) (P := fun i r => r.length = i ∧ ∀ t ∈ r, TieP ms t) fun i y e => by
        have := h (tiesB ms i y) (List.mem_iff_getElem?.mpr ⟨i, by rw [List.getElem?_mapIdx, e]; rfl⟩)
        obtain ⟨S, rfl, h1, h2⟩ := tiesB_iff.mp this
        exact ⟨S, rfl, h1, h2⟩
    rw [List.length_map] at hl
    exact ⟨T, rfl, hl, hT⟩
  · rintro ⟨T, e, hT⟩
    cases e
    intro b hb
    obtain ⟨i, hi⟩ := List.mem_iff_getElem?.mp hb
    rw [List.getElem?_mapIdx, List.getElem?_map] at hi
    cases er : T[i]? with
    | none => rw [er] at hi; cases hi
    | some r =>
      rw [er] at hi
      cases hi
      exact tiesB_iff.mpr ⟨r, rfl, hT.2 i r er⟩
def isLead (hs : List Int) (d : D) : Prop := ∃ L, d = .tup (dnats L) ∧ LeadP hs L
noncomputable def fIl : List D → D
  | [.ins _ _ [_, .tup hs], d] => .bl (cB (isLead (uints hs) d))
  | _ => .non
theorem fIl_is (C : Addr) (ms hs : List Int) (d : D) :
    fIl [frD C ms hs, d] = .bl (cB (isLead hs d)) := by
  show D.bl (cB (isLead (uints (dints hs)) d)) = _
  rw [uints_dints]
def isTurn (ms hs : List Int) (d : D) : Prop := ∃ t, d = dturn t ∧ TurnP ms hs t
noncomputable def fItu : List D → D
  | [.ins _ _ [.tup ms, .tup hs], d] => .bl (cB (isTurn (uints ms) (uints hs) d))
  | _ => .non
theorem fItu_is (C : Addr) (ms hs : List Int) (d : D) :
    fItu [frD C ms hs, d] = .bl (cB (isTurn ms hs d)) := by
  show D.bl (cB (isTurn (uints (dints ms)) (uints (dints hs)) d)) = _
  rw [uints_dints, uints_dints]
theorem below_nats {n : Nat} {xs : List D} (h : xs.all (D.within 0 ((n : Int) - 1)) = true) :
    ∃ L : List Nat, xs = dnats L ∧ ∀ i ∈ L, i < n := by
  obtain ⟨L, e, hL⟩ := dmap_of (g := fun (i : Nat) => D.int (i : Int)) (ys := xs)
    (P := fun _ i => i < n) fun i y e => by
      have := List.all_eq_true.mp h y (List.mem_of_getElem? e)
      cases y with
      | int z =>
        rw [D.within, Bool.and_eq_true, decide_eq_true_eq, decide_eq_true_eq] at this
        refine ⟨z.toNat, ?_, by omega⟩
        rw [Int.toNat_of_nonneg this.1]
      | _ => cases this
  refine ⟨L, e, fun i hi => ?_⟩
  obtain ⟨x, hx⟩ := List.getElem?_of_mem hi
  exact hL x i hx
theorem nats_below {n : Nat} {L : List Nat} (h : ∀ i ∈ L, i < n) :
    (dnats L).all (D.within 0 ((n : Int) - 1)) = true := by
  rw [List.all_eq_true]
  intro x hx
  obtain ⟨i, hi, rfl⟩ := List.mem_map.mp hx
  have := h i hi
  rw [D.within, decide_eq_true (by omega), decide_eq_true (by omega)]
  rfl
theorem nodup_perm {n : Nat} {L : List Nat} (hl : L.length = n) (h : ∀ i ∈ L, i < n)
    (hn : L.Nodup) : L.Perm (List.range n) := by
  rw [List.perm_iff_count]
  intro a
  have nd2 : (List.range n).Nodup := List.nodup_range
  by_cases ha : a < n
  · have h1 : a ∈ L := by
      refine Classical.byContradiction fun hx => ?_
      have := nodup_len (a :: L) (List.range n) (List.nodup_cons.mpr ⟨hx, hn⟩) fun x hx => by
        rw [List.mem_range]
        rcases List.mem_cons.mp hx with rfl | hx
        · exact ha
        · exact h x hx
      rw [List.length_cons, List.length_range, hl] at this
      omega
    rw [hn.count, nd2.count, if_pos h1, if_pos (List.mem_range.mpr ha)]
  · rw [hn.count, nd2.count, if_neg (fun z => ha (h a z)), if_neg (fun z => ha (List.mem_range.mp z))]
theorem sorted_range {n : Nat} {L : List Nat} {ns' : List Int}
    (hl : L.length = n) (h : ∀ i ∈ L, i < n)
    (hp : ns'.Perm (L.map fun (i : Nat) => (i : Int))) (hs : ns'.Pairwise (· ≤ ·)) :
    (ns' = (List.range n).map fun (i : Nat) => (i : Int)) ↔ L.Nodup := by
  constructor
  · intro e
    have h1 : ((List.range n).map fun (i : Nat) => (i : Int)).Nodup :=
      List.Pairwise.map _ (fun a b hab e => hab (by omega)) (List.nodup_range (n := n))
    rw [← e] at h1
    have h2 := hp.nodup_iff.mp h1
    have h3 := List.pairwise_map.mp h2
    exact h3.imp fun hab e => hab (by rw [e])
  · intro hn
    have hP := nodup_perm hl h hn
    refine List.Perm.eq_of_pairwise (le := (· ≤ ·)) (fun a b _ _ h1 h2 => by omega) hs ?_ (hp.trans (hP.map _))
    refine List.pairwise_map.mpr ?_
    refine (List.pairwise_lt_range (n := n)).imp fun hab => ?_
    omega

theorem isLead_iff {hs : List Int} {L : List Nat} (hl : L.length = hs.length)
    (hb : ∀ i ∈ L, i < hs.length) (hn : L.Nodup) :
    ((List.zipWith (fun (y : Nat) h => decide (hs.getD y 0 = h)) L hs).all id = true) ↔
      isLead hs (.tup (dnats L)) := by
  rw [List.all_eq_true]
  constructor
  · intro h
    refine ⟨L, rfl, hl, hn, fun x y e => ?_⟩
    have hy := hb y (List.mem_of_getElem? e)
    have hx := (List.getElem?_eq_some_iff.mp e).1
    obtain ⟨g, hg⟩ : ∃ g, hs[x]? = some g := ⟨hs[x]'(by omega), List.getElem?_eq_getElem _⟩
    have := h (decide (hs.getD y 0 = g)) (List.mem_iff_getElem?.mpr ⟨x, by rw [List.getElem?_zipWith, e, hg]⟩)
    rw [id, decide_eq_true_eq, List.getD_eq_getElem?_getD, List.getElem?_eq_getElem hy] at this
    refine ⟨hy, ?_⟩
    rw [hg, List.getElem?_eq_getElem hy]
    exact congrArg some this
  · rintro ⟨L2, e, h2⟩ b hb2
    have e2 : L = L2 := by
      have := congrArg unats (D.tup.inj e)
      rwa [unats_dnats, unats_dnats] at this
    subst e2
    obtain ⟨x, hx⟩ := List.mem_iff_getElem?.mp hb2
    rw [List.getElem?_zipWith] at hx
    cases ey : L[x]? with
    | none => rw [ey] at hx; simp at hx
    | some y =>
      cases eg : hs[x]? with
      | none => rw [ey, eg] at hx; simp at hx
      | some g =>
        rw [ey, eg] at hx
        cases hx
        have := (h2.hue x y ey).2
        rw [eg] at this
        rw [id, decide_eq_true_eq, List.getD_eq_getElem?_getD, this]
        rfl
theorem num_ints {ns : List Int} {k : Nat} (hl : ns.length ≤ k)
    (h : ∀ n ∈ ns, -10000 ≤ n ∧ n ≤ 10000) : Num 1 (16 * k) (.lst (ns.map D.int)) := by
  refine (Num.lst (k := 0) (w := 15) fun x hx => ?_).up (by omega) ?_
  · obtain ⟨n, hn, rfl⟩ := List.mem_map.mp hx
    exact num_int (h n hn).1 (h n hn).2
  · rw [List.length_map]
    exact Nat.mul_le_mul_left 16 hl

def preDu (ds : List D) : Prop := ∃ (ms : List Int) (n : Nat) (d : D),
  ds = [.tup (dints ms), .int n, d] ∧ MsP ms ∧ n ≤ 60 ∧ d.plain = true
noncomputable def fDu : List D → D
  | [.tup ms, .int n, d] => .bl (cB (isTab (uints ms) n.toNat d))
  | _ => .non
theorem fDu_is (ms : List Int) (n : Nat) (d : D) :
    fDu [.tup (dints ms), .int n, d] = .bl (cB (isTab ms n d)) := by
  show D.bl (cB (isTab (uints (dints ms)) ((n : Int).toNat) d)) = _
  rw [uints_dints, Int.toNat_natCast]
/-- things that are not too much -/
def Fit (d : D) : Prop := ∃ (b : Int) (k w : Nat), Sm b k w d ∧ 5 ≤ b ∧ b ≤ 8000 ∧ k ≤ 50 ∧ w ≤ 30000
def preOd (m : Nat) (ds : List D) : Prop := m < 5000000 ∧ ∃ d, ds = [d] ∧ Fit d
def psiOd (ds : List D) (m m' : Nat) (r : D) : Prop := m' ≤ m + 1 ∧ ∃ d, ds = [d] ∧
  ∀ (b : Int) (k w : Nat), Sm b k w d → 5 ≤ b → b ≤ 8000 → Sm (b + 1) (k + 3) (2 * w + 70) r
def preBn (dd : Nat) (m : Nat) (ds : List D) : Prop := ∃ (d : D) (deep : Nat),
  ds = [d, .int deep] ∧ deep < dd ∧ m + 10 * deep < 4000000 ∧ Fit d
def psiBn (ds : List D) (m m' : Nat) (r : D) : Prop := ∃ (d : D) (deep : Nat), ds = [d, .int deep] ∧
  m' ≤ m + 3 * deep + 3 ∧
  ∀ (b : Int) (k w : Nat), Sm b k w d → 5 ≤ b → b ≤ 8000 → Sm (b + 1) (k + 3) ((2 * deep + 2) * w + 70 + deep) r
def preRt (C : Addr) (ds : List D) : Prop := ∃ (ms hs : List Int) (d : D),
  ds = [.tup (dints ms), .int hs.length, frD C ms hs, d] ∧ MsP ms ∧ hs.length ≤ 16 ∧ Shows d
theorem tieB_all {ms : List Int} {xs : List D} (hl : xs.length = ms.length) :
    tieB ms (.tup xs) = true ↔ ∀ (c : Nat) x m, xs[c]? = some x → ms[c]? = some m →
      D.within 0 (m - 1) x = true := by
  rw [tieB, decide_eq_true hl, Bool.true_and, List.all_eq_true]
  constructor
  · intro h c x m hx hm
    exact h (D.within 0 (m - 1) x) (List.mem_iff_getElem?.mpr ⟨c, by rw [List.getElem?_zipWith, hx, hm]⟩)
  · intro h b hb
    obtain ⟨c, hc⟩ := List.mem_iff_getElem?.mp hb
    rw [List.getElem?_zipWith] at hc
    cases hx : xs[c]? with
    | none => rw [hx] at hc; cases hc
    | some x =>
      cases hm : ms[c]? with
      | none => rw [hx, hm] at hc; cases hc
      | some m =>
        rw [hx, hm] at hc
        cases hc
        exact h c x m hx hm
theorem tieB_not {ms : List Int} {xs : List D} {c : Nat} {x : D} {m : Int} (hx : xs[c]? = some x)
    (hm : ms[c]? = some m) (h : D.within 0 (m - 1) x = false) : tieB ms (.tup xs) = false := by
  cases e : tieB ms (.tup xs) with
  | false => rfl
  | true =>
    have hl : xs.length = ms.length := by
      rw [tieB, Bool.and_eq_true, decide_eq_true_eq] at e
      exact e.1
    rw [(tieB_all hl).mp e c x m hx hm] at h
    cases h
theorem tab_no {ms : List Int} {n : Nat} {xs : List D} {c : Nat} {x : D} (hx : xs[c]? = some x)
    (h : tiesB ms c x = false) : ¬ isTab ms n (.tup xs) := by
  rintro ⟨T, e, hT⟩
  cases e
  rw [List.getElem?_map] at hx
  cases er : T[c]? with
  | none => rw [er] at hx; cases hx
  | some r =>
    rw [er] at hx
    cases hx
    rw [tiesB_iff.mpr ⟨r, rfl, hT.2 c r er⟩] at h
    cases h
theorem tab_yes {ms : List Int} {n : Nat} {xs : List D} (hl : xs.length = n)
    (h : ∀ (c : Nat) x, xs[c]? = some x → tiesB ms c x = true) : isTab ms n (.tup xs) := by
  refine (isTab_iff hl).mp (List.all_eq_true.mpr fun b hb => ?_)
  obtain ⟨c, hc⟩ := List.mem_iff_getElem?.mp hb
  rw [List.getElem?_mapIdx] at hc
  cases hx : xs[c]? with
  | none => rw [hx] at hc; cases hc
  | some x =>
    rw [hx] at hc
    cases hc
    exact h c x hx
theorem mem_rep {ys : List D} {n : Nat} {r : D} (h : r ∈ (List.replicate n ys).flatten) : r ∈ ys := by
  obtain ⟨l, hl, hr⟩ := List.mem_flatten.mp h
  rw [(List.mem_replicate.mp hl).2] at hr
  exact hr
theorem sm_lit {c : D} {b : Int} {k w : Nat} (hi : itmB 3 70 c = true) (hs : c.smallB 5 = true) (h5 : 5 ≤ b) :
    Sm (b + 1) (k + 3) (2 * w + 70) c :=
  Sm.up (b := 5) ⟨Itm.of hi, hs⟩ (by omega) (by omega) (by omega)
theorem Fit.plain {d : D} (h : Fit d) : d.plain = true := by
  obtain ⟨b, k, w, h, _⟩ := h
  exact h.itm.plain
theorem sm_kk {b : Int} {k w : Nat} {xs : List D} (h : Sm b k w (.tup xs)) : ∃ k', k = k' + 1 ∧ Sms b k' w xs := by
  have := h.itm.deep1
  obtain ⟨k', rfl⟩ : ∃ k', k = k' + 1 := ⟨k - 1, by omega⟩
  exact ⟨k', rfl, h.sms⟩
theorem Fit.len {xs : List D} (h : Fit (.tup xs)) : xs.length ≤ 30000 := by
  obtain ⟨b, k, w, h, _, _, _, hw⟩ := h
  obtain ⟨k', rfl, hs⟩ := sm_kk h
  have := hs.its.len
  omega
theorem eqs_int2 (i : Int) : Eqs (.int i) := ⟨rfl, by
  unfold SeqAt.shaped
  rw [flat_lay (.int i) rfl, decide_eq_true (by simp [D.py, PyData.depth])]; rfl⟩
theorem eqs_bl (b : Bool) : Eqs (.bl b) := by cases b <;> exact ⟨rfl, by decide⟩
theorem sm_of_int {b : Int} {k w : Nat} {i : Int} (h : Sm b k w (.int i)) : -b ≤ i ∧ i ≤ b := by
  have := h.sm
  rwa [D.smallB, Bool.and_eq_true, decide_eq_true_eq, decide_eq_true_eq] at this
theorem sm_near {b : Int} {k w : Nat} {j : Int} (h8 : b ≤ 8000) (h1 : -(b + 1) ≤ j) (h2 : j ≤ b + 1) :
    Sm (b + 1) (k + 3) (2 * w + 70) (.int j) :=
  (sm_int (b := b + 1) (i := j) (by omega) (by omega) h1 h2).up (by omega) (by omega) (by omega)
theorem sm_bl {b : Int} {k w : Nat} {c : Bool} (h5 : 5 ≤ b) : Sm (b + 1) (k + 3) (2 * w + 70) (.bl c) := by
  cases c
  · exact sm_lit (by decide) (by decide) h5
  · exact sm_lit (by decide) (by decide) h5
def oddL (d : D) : List D := [D.non, D.bl true, D.bl false, D.int 0, D.int 1, D.int (-1), D.int 5, D.str (Str.ofString ""), D.str (Str.ofString "0"), D.tup [], D.lst [], D.dic [], D.tup [D.int 0], D.tup [D.tup [D.int 0]], D.lst [d], D.tup [d]]
theorem itm_small {i : Int} (h1 : 0 ≤ i) (h2 : i ≤ 4) : Sm 5 0 3 (.int i) := by
  have : i = 0 ∨ i = 1 ∨ i = 2 ∨ i = 3 ∨ i = 4 := by omega
  rcases this with rfl | rfl | rfl | rfl | rfl <;> exact ⟨Itm.of (by decide +kernel), by decide⟩
theorem sms_all {b : Int} {k w : Nat} : ∀ {xs : List D}, (∀ x ∈ xs, Sm b k w x) → Sms b k ((w + 1) * xs.length) xs
  | [], _ => (Sms.nil (b := b)).up (Int.le_refl _) (Nat.zero_le _) (Nat.zero_le _)
  | x :: xs, h => by
    have r := sms_all (xs := xs) fun y hy => h y (List.mem_cons_of_mem _ hy)
    have o := Sms.one (h x List.mem_cons_self)
    refine (o.app r).up (Int.le_refl _) (Nat.le_refl _) ?_
    rw [List.length_cons, Nat.mul_add]
    omega
theorem tie_sm {ms t : List Int} (hM : MsP ms) (h : TieP ms t) : Sm 5 1 12 (.tup (dints t)) := by
  have hl : t.length ≤ 3 := by have := hM.2.1; have := h.1; omega
  refine (sms_all (b := 5) (k := 0) (w := 3) (xs := dints t) fun x hx => ?_).tup.up (Int.le_refl _) (by omega) ?_
  · obtain ⟨n, hn, rfl⟩ := List.mem_map.mp hx
    obtain ⟨c, hc⟩ := List.mem_iff_getElem?.mp hn
    have hlt := (List.getElem?_eq_some_iff.mp hc).1
    obtain ⟨m, hm⟩ : ∃ m, ms[c]? = some m := ⟨ms[c]'(by have := h.1; omega), List.getElem?_eq_getElem _⟩
    have := h.2 c m n hm hc
    have := hM.2.2 m (List.mem_of_getElem? hm)
    exact itm_small (by omega) (by omega)
  · rw [dints_length]
    omega
theorem tab_sm {ms : List Int} {n : Nat} {T : List (List (List Int))} (hM : MsP ms) (hn : n ≤ 8)
    (h : TabP ms n T) : Sms 5 2 736 (T.map fun r => D.tup (r.map fun t => .tup (dints t))) := by
  refine (sms_all (b := 5) (k := 2) (w := 91) fun x hx => ?_).up (Int.le_refl _) (Nat.le_refl _) ?_
  · obtain ⟨r, hr, rfl⟩ := List.mem_map.mp hx
    obtain ⟨i, hi⟩ := List.mem_iff_getElem?.mp hr
    have hlt := (List.getElem?_eq_some_iff.mp hi).1
    have hlen := h.1
    obtain ⟨h1, h2⟩ := h.2 i r hi
    refine (sms_all (b := 5) (k := 1) (w := 12) fun y hy => ?_).tup.up (Int.le_refl _) (by omega) ?_
    · obtain ⟨t, ht, rfl⟩ := List.mem_map.mp hy
      exact tie_sm hM (h2 t ht)
    · rw [List.length_map]
      omega
  · rw [List.length_map, h.1]
    omega
theorem Sm.shows' {b : Int} {k w : Nat} {d : D} (h : Sm b k w d) (hk : k ≤ 100) (hw : w ≤ 200000) : Shows d :=
  h.itm.show hk hw
theorem v_ixLast2 {K : PySem.W.Frag} {l : Option Addr} {ρ : Ro} {m : Nat} {Φ : Nat → D → Prop} {xs : List D} {d : D}
    (h : xs.getLast? = some d) (q : Φ m d) :
    VvC K l ρ (fun vs H Q => ∃ x y, vs = [x, y] ∧ rIxT K x y H Q) [.tup xs, .int (-1)] m Φ := by
  obtain ⟨ds, rfl⟩ := List.getLast?_eq_some_iff.mp h
  exact v_ixLast q
theorem ev_is (ms : List Int) (n : Nat) : D.tup ((List.range n).map fun i => D.tup (List.replicate i (.tup (dints (zt ms))))) =
    dtab (constT (zt ms) n) := by
  show _ = D.tup ((constT (zt ms) n).map fun r => D.tup (r.map fun t => .tup (dints t)))
  rw [constT, List.map_map]
  congr 1
  refine List.map_congr_left fun i _ => ?_
  show _ = D.tup ((List.replicate i (zt ms)).map fun t => .tup (dints t))
  rw [List.map_replicate]

/-! ### pairs of stems -/
abbrev dp (p : Nat × Nat) : D := .tup [.int p.1, .int p.2]
def prB (n : Nat) : D → Bool
  | .tup [x, y] => D.within 0 ((n : Int) - 1) x && D.within 0 ((n : Int) - 1) y
  | _ => false
theorem prB_iff {n : Nat} {d : D} : prB n d = true ↔ ∃ p, d = dp p ∧ p.1 < n ∧ p.2 < n := by
  constructor
  · intro h
    unfold prB at h
    split at h
    · rename_i x y
      rw [Bool.and_eq_true] at h
      obtain ⟨h1, h2⟩ := h
      cases x with
      | int i =>
        cases y with
        | int j =>
          rw [D.within, Bool.and_eq_true, decide_eq_true_eq, decide_eq_true_eq] at h1 h2
          refine ⟨(i.toNat, j.toNat), ?_, by omega, by omega⟩
          show D.tup [.int i, .int j] = .tup [.int (i.toNat : Int), .int (j.toNat : Int)]
          rw [Int.toNat_of_nonneg h1.1, Int.toNat_of_nonneg h2.1]
        | _ => cases h2
      | _ => cases h1
    · cases h
  · rintro ⟨p, rfl, h1, h2⟩
    show (D.within 0 ((n : Int) - 1) (.int p.1) && D.within 0 ((n : Int) - 1) (.int p.2)) = true
    rw [D.within, D.within, decide_eq_true (by omega), decide_eq_true (by omega), decide_eq_true (by omega), decide_eq_true (by omega)]
    rfl
def InR (n : Nat) (P : List (Nat × Nat)) : Prop := ∀ p ∈ P, p.1 < n ∧ p.2 < n
theorem prs_all {n : Nat} {xs : List D} : xs.all (prB n) = true ↔ ∃ P, xs = P.map dp ∧ InR n P := by
  constructor
  · intro h
    obtain ⟨P, e, hP⟩ := dmap_of (g := dp) (ys := xs) (P := fun _ p => p.1 < n ∧ p.2 < n) fun i y e => by
      obtain ⟨p, e2, h2⟩ := prB_iff.mp (List.all_eq_true.mp h y (List.mem_of_getElem? e))
      exact ⟨p, e2, h2⟩
    refine ⟨P, e, fun p hp => ?_⟩
    obtain ⟨x, hx⟩ := List.getElem?_of_mem hp
    exact hP x p hx
  · rintro ⟨P, rfl, h⟩
    rw [List.all_eq_true]
    intro x hx
    obtain ⟨p, hp, rfl⟩ := List.mem_map.mp hx
    exact prB_iff.mpr ⟨p, rfl, h p hp⟩
def upr : D → Nat × Nat
  | .tup [.int i, .int j] => (i.toNat, j.toNat)
  | _ => (0, 0)
theorem upr_dp (p : Nat × Nat) : upr (dp p) = p := by
  show ((p.1 : Int).toNat, (p.2 : Int).toNat) = p
  rw [Int.toNat_natCast, Int.toNat_natCast]
theorem uprs_dp (P : List (Nat × Nat)) : (P.map dp).map upr = P := by
  rw [List.map_map]
  conv => rhs; rw [← List.map_id P]
  exact List.map_congr_left fun p _ => upr_dp p
theorem dps_inj {P Q : List (Nat × Nat)} (h : P.map dp = Q.map dp) : P = Q := by
  have := congrArg (List.map upr) h
  rwa [uprs_dp, uprs_dp] at this
def fSpr : List D → D
  | [.ins _ _ [_, .tup hs], d] => .bl (prB hs.length d)
  | _ => .non
theorem fSpr_is (C : Addr) (ms hs : List Int) (d : D) : fSpr [frD C ms hs, d] = .bl (prB hs.length d) := by
  show D.bl (prB (dints hs).length d) = _
  rw [dints_length]
def preUn (ds : List D) : Prop := ∃ ns : List Int, ds = [.lst (dints ns)] ∧ ns.length < 4000
noncomputable def fUn : List D → D
  | [.lst xs] => .bl (cB (uints xs).Nodup)
  | _ => .non
theorem fUn_is (ns : List Int) : fUn [.lst (dints ns)] = .bl (cB ns.Nodup) := by
  show D.bl (cB (uints (dints ns)).Nodup) = _
  rw [uints_dints]
def Mat (P : List (Nat × Nat)) : Prop := P.Pairwise fun p q => p.1 < q.1 ∧ p.2 ≠ q.2
def preMa (ds : List D) : Prop := ∃ P, ds = [.tup (P.map dp)] ∧ InR 60 P ∧ P.length ≤ 3000
noncomputable def fMa : List D → D
  | [.tup xs] => .bl (cB (Mat (xs.map upr)))
  | _ => .non
theorem fMa_is (P : List (Nat × Nat)) : fMa [.tup (P.map dp)] = .bl (cB (Mat P)) := by
  show D.bl (cB (Mat ((P.map dp).map upr))) = _
  rw [uprs_dp]
theorem py_dp (p : Nat × Nat) : (dp p).py = .tuple [.int p.1, .int p.2] := rfl
theorem le_dp {p q : Nat × Nat} : leD (dp p) (dp q) = true ↔ p.1 < q.1 ∨ p.1 = q.1 ∧ p.2 ≤ q.2 := by
  show (!PySem.W.dataLt (dp q).py (dp p).py) = true ↔ _
  rw [py_dp, py_dp, PySem.W.dataLt_pair (by simp [PySem.W.alike]) (by simp [PySem.W.alike]), PySem.W.dataLt_int, PySem.W.dataLt_int]
  have e : ∀ a b : Nat, PyData.eqv (.int (a : Int)) (.int (b : Int)) = decide (a = b) := fun a b => by
    by_cases h : a = b
    · rw [h]; simp [PyData.eqv]
    · have : (a : Int) ≠ (b : Int) := fun z => h (by omega)
      simp [PyData.eqv, this, h]
  rw [e, e]
  by_cases h : q.1 = p.1
  · rw [decide_eq_true h, if_pos rfl]
    by_cases h2 : q.2 = p.2
    · rw [decide_eq_true h2, if_pos rfl]
      exact ⟨fun _ => by omega, fun _ => rfl⟩
    rw [decide_eq_false h2, if_neg Bool.false_ne_true, Bool.not_eq_true', decide_eq_false_iff_not]
    omega
  · rw [decide_eq_false h, if_neg Bool.false_ne_true, Bool.not_eq_true', decide_eq_false_iff_not]
    omega
theorem alike_dps (P : List (Nat × Nat)) : PySem.W.AllAlike ((P.map dp).map D.py) := by
  intro d hd d' hd'
  obtain ⟨x, hx, rfl⟩ := List.mem_map.mp hd
  obtain ⟨p, _, rfl⟩ := List.mem_map.mp hx
  obtain ⟨y, hy, rfl⟩ := List.mem_map.mp hd'
  obtain ⟨q, _, rfl⟩ := List.mem_map.mp hy
  rw [py_dp, py_dp, PySem.W.alike, PySem.W.alikeAll, PySem.W.alikeAll, PySem.W.alike, PySem.W.alike]
  simp [PySem.W.alikeAll]
theorem sortable_dps (P : List (Nat × Nat)) : PySem.W.Sortable ((P.map dp).map D.py) := by
  refine .inl fun d hd => ?_
  obtain ⟨x, hx, rfl⟩ := List.mem_map.mp hd
  obtain ⟨p, _, rfl⟩ := List.mem_map.mp hx
  exact ⟨_, _, py_dp p⟩
theorem sort_dps (P : List (Nat × Nat)) : P.map dp = (P.map dp).mergeSort leD ↔
    P.Pairwise fun p q => p.1 < q.1 ∨ p.1 = q.1 ∧ p.2 ≤ q.2 := by
  have h2 : (P.map dp).Pairwise (fun a b => leD a b = true) ↔ P.Pairwise fun p q => p.1 < q.1 ∨ p.1 = q.1 ∧ p.2 ≤ q.2 := by
    rw [List.pairwise_map]
    exact ⟨fun h => h.imp fun z => le_dp.mp z, fun h => h.imp fun z => le_dp.mpr z⟩
  rw [← h2]
  constructor
  · intro h
    rw [h]
    exact List.pairwise_mergeSort ((fun a b c h1 h2 => (PySem.W.sortLe_total _ false _).trans a b c h1 h2)) (fun a b => by rw [Bool.or_eq_true]; exact (PySem.W.sortLe_total _ false _).total a b) _
  · intro h
    exact (List.mergeSort_of_pairwise h).symm
theorem mat_iff (P : List (Nat × Nat)) : Mat P ↔ P.map dp = (P.map dp).mergeSort leD ∧
    (P.map fun p => (p.1 : Int)).Nodup ∧ (P.map fun p => (p.2 : Int)).Nodup := by
  rw [sort_dps]
  unfold Mat List.Nodup
  rw [List.pairwise_map, List.pairwise_map]
  constructor
  · intro h
    exact ⟨h.imp fun z => .inl z.1, h.imp fun z e => by omega, h.imp fun z e => z.2 (by omega)⟩
  · rintro ⟨h1, h2, h3⟩
    refine (h1.and (h2.and h3)).imp fun {p q} z => ?_
    obtain ⟨z1, z2, z3⟩ := z
    exact ⟨by omega, fun e => z3 (by omega)⟩
theorem dps_num {n : Nat} {P : List (Nat × Nat)} (hn : n ≤ 60) (h : InR n P) : ∀ x ∈ P.map dp, Num 1 32 x := by
  intro x hx
  obtain ⟨p, hp, rfl⟩ := List.mem_map.mp hx
  have := h p hp
  exact num_row (ns := [(p.1 : Int), (p.2 : Int)]) (k := 2) (Nat.le_refl _) fun z hz => by
    simp only [List.mem_cons, List.not_mem_nil, or_false] at hz
    rcases hz with rfl | rfl <;> omega
theorem mat_len {n : Nat} {P : List (Nat × Nat)} (h : InR n P) (hm : Mat P) : P.length ≤ n := by
  have := nodup_len (P.map (·.1)) (List.range n) (by
    unfold List.Nodup
    rw [List.pairwise_map]
    exact List.Pairwise.imp (fun z e => by omega) hm) fun x hx => by
      obtain ⟨p, hp, rfl⟩ := List.mem_map.mp hx
      exact List.mem_range.mpr (h p hp).1
  rwa [List.length_map, List.length_range] at this
theorem mat_ne {P : List (Nat × Nat)} (hm : Mat P) {p q : Nat × Nat} (hp : p ∈ P) (hq : q ∈ P) (h : p.1 ≠ q.1) : p.2 ≠ q.2 := by
  obtain ⟨i, hi⟩ := List.getElem?_of_mem hp
  obtain ⟨j, hj⟩ := List.getElem?_of_mem hq
  obtain ⟨hi1, hi2⟩ := List.getElem?_eq_some_iff.mp hi
  obtain ⟨hj1, hj2⟩ := List.getElem?_eq_some_iff.mp hj
  have key := List.pairwise_iff_getElem.mp hm
  rcases Nat.lt_trichotomy i j with z | z | z
  · have := key i j hi1 hj1 z
    rw [hi2, hj2] at this
    exact this.2
  · subst z
    rw [hi] at hj
    cases hj
    exact absurd rfl h
  · have := key j i hj1 hi1 z
    rw [hi2, hj2] at this
    exact Ne.symm this.2
def Hue (hs : List Int) (P : List (Nat × Nat)) : Prop := ∀ p ∈ P, hs[p.1]? = hs[p.2]?
def preKh (C : Addr) (ds : List D) : Prop := ∃ ms hs P, ds = [frD C ms hs, .tup (P.map dp)] ∧ InR hs.length P ∧ P.length ≤ 3000
noncomputable def fKh : List D → D
  | [.ins _ _ [_, .tup hs], .tup xs] => .bl (cB (Hue (uints hs) (xs.map upr)))
  | _ => .non
theorem fKh_is (C : Addr) (ms hs : List Int) (P : List (Nat × Nat)) :
    fKh [frD C ms hs, .tup (P.map dp)] = .bl (cB (Hue hs P)) := by
  show D.bl (cB (Hue (uints (dints hs)) ((P.map dp).map upr))) = _
  rw [uints_dints, uprs_dp]
def Tis (ms : List Int) (T U : List (List (List Int))) (P : List (Nat × Nat)) : Prop :=
  ∀ p ∈ P, ∀ q ∈ P, p.1 ≠ q.1 → webT ms T p.1 q.1 = webT ms U p.2 q.2
def preKt (C : Addr) (ds : List D) : Prop := ∃ ms hs T U P, ds = [frD C ms hs, dtab T, dtab U, .tup (P.map dp)] ∧
  MsP ms ∧ hs.length ≤ 16 ∧ TabP ms hs.length T ∧ TabP ms hs.length U ∧ InR hs.length P ∧ Mat P
noncomputable def fKt : List D → D
  | [.ins _ _ [.tup ms, _], t, u, .tup xs] => .bl (cB (Tis (uints ms) (utab t) (utab u) (xs.map upr)))
  | _ => .non
theorem fKt_is (C : Addr) (ms hs : List Int) (T U : List (List (List Int))) (P : List (Nat × Nat)) :
    fKt [frD C ms hs, dtab T, dtab U, .tup (P.map dp)] = .bl (cB (Tis ms T U P)) := by
  show D.bl (cB (Tis (uints (dints ms)) (utab (dtab T)) (utab (dtab U)) ((P.map dp).map upr))) = _
  rw [uints_dints, utab_dtab, utab_dtab, uprs_dp]
def isLike (ms hs : List Int) (T U : List (List (List Int))) (d : D) : Prop :=
  ∃ P, d = .tup (P.map dp) ∧ InR hs.length P ∧ Mat P ∧ Hue hs P ∧ Tis ms T U P
def Sht (d : D) : Prop := ∀ xs, d = .tup xs → xs.length ≤ 3000
def preLk (C : Addr) (ds : List D) : Prop := ∃ ms hs T U d, ds = [frD C ms hs, dtab T, dtab U, d] ∧
  MsP ms ∧ hs.length ≤ 16 ∧ TabP ms hs.length T ∧ TabP ms hs.length U ∧ d.plain = true ∧ Sht d
noncomputable def fLk : List D → D
  | [.ins _ _ [.tup ms, .tup hs], t, u, d] => .bl (cB (isLike (uints ms) (uints hs) (utab t) (utab u) d))
  | _ => .non
theorem fLk_is (C : Addr) (ms hs : List Int) (T U : List (List (List Int))) (d : D) :
    fLk [frD C ms hs, dtab T, dtab U, d] = .bl (cB (isLike ms hs T U d)) := by
  show D.bl (cB (isLike (uints (dints ms)) (uints (dints hs)) (utab (dtab T)) (utab (dtab U)) d)) = _
  rw [uints_dints, uints_dints, utab_dtab, utab_dtab]
theorem like_iff {ms hs : List Int} {T U : List (List (List Int))} {P : List (Nat × Nat)} :
    isLike ms hs T U (.tup (P.map dp)) ↔ InR hs.length P ∧ Mat P ∧ Hue hs P ∧ Tis ms T U P := by
  constructor
  · rintro ⟨Q, e, h⟩
    rw [dps_inj (D.tup.inj e)]
    exact h
  · intro h
    exact ⟨P, rfl, h⟩
/-! ### what the law's own defs tell -/
def preFm (ds : List D) : Prop := ∃ (ms : List Int) (n : Nat) (T : List (List (List Int))) (i j : Nat),
  ds = [.tup (dints ms), dtab T, .int i, .int j] ∧ MsP ms ∧ TabP ms n T ∧ i < n ∧ j < n ∧ i ≠ j
def fFm : List D → D
  | [.tup ms, t, .int i, .int j] => .tup (dints (webT (uints ms) (utab t) i.toNat j.toNat))
  | _ => .non
theorem fFm_is (ms : List Int) (T : List (List (List Int))) (i j : Nat) :
    fFm [.tup (dints ms), dtab T, .int i, .int j] = .tup (dints (webT ms T i j)) := by
  show D.tup (dints (webT (uints (dints ms)) (utab (dtab T)) ((i : Int).toNat) ((j : Int).toNat))) = _
  rw [uints_dints, utab_dtab, Int.toNat_natCast, Int.toNat_natCast]
def cdT (ms : List Int) (T : List (List (List Int))) (L : List Nat) : List (List (List Int)) :=
  mkT L.length fun i j => webT ms T (L.idxOf i) (L.idxOf j)
def preCd (ds : List D) : Prop := ∃ (ms hs : List Int) (T : List (List (List Int))) (L : List Nat),
  ds = [.tup (dints ms), dtab T, .tup (dnats L)] ∧ MsP ms ∧ hs.length ≤ 16 ∧ TabP ms hs.length T ∧ LeadP hs L
def fCd : List D → D
  | [.tup ms, t, .tup xs] => dtab (cdT (uints ms) (utab t) (unats xs))
  | _ => .non
theorem fCd_is (ms : List Int) (T : List (List (List Int))) (L : List Nat) :
    fCd [.tup (dints ms), dtab T, .tup (dnats L)] = dtab (cdT ms T L) := by
  show dtab (cdT (uints (dints ms)) (utab (dtab T)) (unats (dnats L))) = _
  rw [uints_dints, utab_dtab, unats_dnats]
def preBw (m : Nat) (ds : List D) : Prop := m < 7000000 ∧ ∃ (ms : List Int) (n : Nat) (T : List (List (List Int))),
  ds = [.tup (dints ms), dtab T] ∧ MsP ms ∧ 2 ≤ n ∧ n ≤ 16 ∧ TabP ms n T
def psiBw (ds : List D) (m m' : Nat) (d : D) : Prop := m' ≤ m + 10 ∧ ∃ (ms : List Int) (n : Nat) (T U : List (List (List Int))),
  ds = [.tup (dints ms), dtab T] ∧ TabP ms n T ∧ d = dtab U ∧ TabP ms n U
def PrH (hs : List Int) (d : D) : Prop := ∃ p, d = dp p ∧ p.1 < hs.length ∧ p.2 < hs.length ∧ hs[p.1]? = hs[p.2]?
def preIp (ds : List D) : Prop := ∃ hs d, ds = [.tup (dints hs), d] ∧ hs.length ≤ 60 ∧ d.plain = true
noncomputable def fIp : List D → D
  | [.tup hs, d] => .bl (cB (PrH (uints hs) d))
  | _ => .non
theorem fIp_is (hs : List Int) (d : D) : fIp [.tup (dints hs), d] = .bl (cB (PrH hs d)) := by
  show D.bl (cB (PrH (uints (dints hs)) d)) = _
  rw [uints_dints]
def preDk (ds : List D) : Prop := ∃ (ms hs : List Int) (T U : List (List (List Int))) (d : D),
  ds = [.tup (dints ms), .tup (dints hs), .tup [dtab T, dtab U], d] ∧
  MsP ms ∧ hs.length ≤ 16 ∧ TabP ms hs.length T ∧ TabP ms hs.length U ∧ d.plain = true ∧ Sht d
noncomputable def fDk : List D → D
  | [.tup ms, .tup hs, .tup [t, u], d] => .bl (cB (isLike (uints ms) (uints hs) (utab t) (utab u) d))
  | _ => .non
theorem fDk_is (ms hs : List Int) (T U : List (List (List Int))) (d : D) :
    fDk [.tup (dints ms), .tup (dints hs), .tup [dtab T, dtab U], d] = .bl (cB (isLike ms hs T U d)) := by
  show D.bl (cB (isLike (uints (dints ms)) (uints (dints hs)) (utab (dtab T)) (utab (dtab U)) d)) = _
  rw [uints_dints, uints_dints, utab_dtab, utab_dtab]
theorem prH_all {hs : List Int} {xs : List D} (h : ∀ x ∈ xs, PrH hs x) : ∃ P, xs = P.map dp ∧ InR hs.length P ∧ Hue hs P := by
  obtain ⟨P, e, hP⟩ := dmap_of (g := dp) (ys := xs) (P := fun _ p => p.1 < hs.length ∧ p.2 < hs.length ∧ hs[p.1]? = hs[p.2]?) fun i y e => by
    obtain ⟨p, e2, h2⟩ := h y (List.mem_of_getElem? e)
    exact ⟨p, e2, h2⟩
  have hP2 : ∀ p ∈ P, p.1 < hs.length ∧ p.2 < hs.length ∧ hs[p.1]? = hs[p.2]? := fun p hp => by
    obtain ⟨x, hx⟩ := List.getElem?_of_mem hp
    exact hP x p hx
  exact ⟨P, e, fun p hp => ⟨(hP2 p hp).1, (hP2 p hp).2.1⟩, fun p hp => (hP2 p hp).2.2⟩
theorem like_prH {ms hs : List Int} {T U : List (List (List Int))} {xs : List D} (h : isLike ms hs T U (.tup xs)) : ∀ x ∈ xs, PrH hs x := by
  obtain ⟨P, e, h1, _, h2, _⟩ := h
  cases e
  intro x hx
  obtain ⟨p, hp, rfl⟩ := List.mem_map.mp hx
  exact ⟨p, rfl, (h1 p hp).1, (h1 p hp).2, h2 p hp⟩
/-- the ties read the other way -/
theorem webT_neg {ms : List Int} {n : Nat} {T : List (List (List Int))} {i j : Nat} (hM : MsP ms) (h : TabP ms n T)
    (hi : i < n) (hj : j < n) (hij : i ≠ j) : webT ms T i j = negF ms (webT ms T j i) := by
  have nn : ∀ {x : List Int}, TieP ms x → negF ms (negF ms x) = x := fun {x} hx => by
    unfold negF
    rw [less_neg hM (rep_tie hM) hx]
    exact less_zero hM hx
  unfold webT
  by_cases e : j < i
  · rw [if_pos e, if_neg (by omega), nn (tt_tie h hi e)]
  · rw [if_neg e, if_pos (by omega)]
/-- what the law asks of two pairs, the later one first -/
def Two (ms : List Int) (T U : List (List (List Int))) (p q : Nat × Nat) : Prop :=
  q.1 < p.1 ∧ p.2 ≠ q.2 ∧ webT ms T p.1 q.1 = webT ms U p.2 q.2
theorem like_two {ms hs : List Int} {T U : List (List (List Int))} {P : List (Nat × Nat)} (hM : MsP ms)
    (hT : TabP ms hs.length T) (hU : TabP ms hs.length U) (h1 : InR hs.length P) (h2 : Hue hs P) :
    isLike ms hs T U (.tup (P.map dp)) ↔ ∀ (i j : Nat) p q, P[i]? = some p → P[j]? = some q → j < i → Two ms T U p q := by
  rw [like_iff]
  constructor
  · rintro ⟨_, hm, _, ht⟩ i j p q hp hq hji
    obtain ⟨hi1, hi2⟩ := List.getElem?_eq_some_iff.mp hp
    obtain ⟨hj1, hj2⟩ := List.getElem?_eq_some_iff.mp hq
    have := List.pairwise_iff_getElem.mp hm j i hj1 hi1 hji
    rw [hi2, hj2] at this
    exact ⟨this.1, Ne.symm this.2, ht p (List.mem_of_getElem? hp) q (List.mem_of_getElem? hq) (by omega)⟩
  · intro h
    refine ⟨h1, ?_, h2, fun p hp q hq hne => ?_⟩
    · refine List.pairwise_iff_getElem.mpr fun i j hi hj hij => ?_
      have := h j i _ _ (List.getElem?_eq_getElem hj) (List.getElem?_eq_getElem hi) hij
      exact ⟨this.1, Ne.symm this.2.1⟩
    · obtain ⟨i, hi⟩ := List.getElem?_of_mem hp
      obtain ⟨j, hj⟩ := List.getElem?_of_mem hq
      rcases Nat.lt_trichotomy i j with z | z | z
      · obtain ⟨a, b, c⟩ := h j i q p hj hi z
        rw [webT_neg hM hT (h1 p hp).1 (h1 q hq).1 hne, webT_neg hM hU (h1 p hp).2 (h1 q hq).2 (Ne.symm b), c]
      · subst z
        rw [hi] at hj
        cases hj
        exact absurd rfl hne
      · exact (h i j p q hi hj z).2.2
def Upto {α : Type} (P : List α) (t : Nat) (X : α → Prop) : Prop := ∀ (b : Nat) q, b < t → P[b]? = some q → X q
theorem upto_zero {α : Type} (P : List α) (X : α → Prop) : Upto P 0 X ↔ True :=
  ⟨fun _ => trivial, fun _ b _ h => absurd h (Nat.not_lt_zero b)⟩
theorem upto_succ {α : Type} {P : List α} {t : Nat} {q0 : α} (h : P[t]? = some q0) {X : α → Prop} :
    Upto P (t + 1) X ↔ Upto P t X ∧ X q0 := by
  constructor
  · intro z
    exact ⟨fun b q hb e => z b q (by omega) e, z t q0 (by omega) h⟩
  · rintro ⟨z, w⟩ b q hb e
    by_cases e2 : b = t
    · subst e2
      rw [h] at e
      cases e
      exact w
    · exact z b q (by omega) e
theorem upto_all {α : Type} {P : List α} {X : α → Prop} : Upto P P.length X ↔ ∀ q ∈ P, X q := by
  constructor
  · intro z q hq
    obtain ⟨b, hb⟩ := List.getElem?_of_mem hq
    exact z b q (List.getElem?_eq_some_iff.mp hb).1 hb
  · intro z b q _ e
    exact z q (List.mem_of_getElem? e)
theorem all_snoc {bs : List Bool} {b : Bool} : (bs ++ [b]).all id = true ↔ bs.all id = true ∧ b = true := by
  rw [List.all_append, Bool.and_eq_true]
  simp
/-! ### odd things and bent things -/
def tlen : D → Nat
  | .tup xs => xs.length
  | _ => 0
def Fit2 (d : D) : Prop := ∃ (b : Int) (k w : Nat), Sm b k w d ∧ 100 ≤ b ∧ b ≤ 8000 ∧ k ≤ 50 ∧ w ≤ 30000
def preOd2 (m : Nat) (ds : List D) : Prop := m < 5000000 ∧ ∃ d, ds = [d] ∧ Fit2 d
def Odd2 (u v : Nat) (d r : D) : Prop := tlen r ≤ 2 * tlen d + 3 ∧
  ∀ (b : Int) (k w : Nat), Sm b k w d → 100 ≤ b → b ≤ 8000 → Sm (b + 1) (k + 3) (u * w + v) r
def psiOd2 (ds : List D) (m m' : Nat) (r : D) : Prop := m' ≤ m + 1 ∧ ∃ d, ds = [d] ∧ Odd2 2 70 d r
def preBn2 (dd : Nat) (m : Nat) (ds : List D) : Prop := ∃ (d : D) (deep : Nat),
  ds = [d, .int deep] ∧ deep < dd ∧ m + 10 * deep < 4000000 ∧ Fit2 d
def psiBn2 (ds : List D) (m m' : Nat) (r : D) : Prop := ∃ (d : D) (deep : Nat), ds = [d, .int deep] ∧
  m' ≤ m + 3 * deep + 3 ∧ Odd2 (2 * deep + 2) (70 + deep) d r
theorem sm_lit2 {c : D} {b : Int} {k w : Nat} (hi : itmB 3 70 c = true) (hs : c.smallB 100 = true) (h5 : 100 ≤ b) :
    Sm (b + 1) (k + 3) (2 * w + 70) c :=
  Sm.up (b := 100) ⟨Itm.of hi, hs⟩ (by omega) (by omega) (by omega)
theorem Fit2.plain {d : D} (h : Fit2 d) : d.plain = true := by
  obtain ⟨b, k, w, h, _⟩ := h
  exact h.itm.plain
theorem Fit2.len {xs : List D} (h : Fit2 (.tup xs)) : xs.length ≤ 30000 := by
  obtain ⟨b, k, w, h, _, _, _, hw⟩ := h
  obtain ⟨k', rfl, hs⟩ := sm_kk h
  have := hs.its.len
  omega
def oddL2 (d : D) : List D := [D.non, D.bl true, D.bl false, D.int (-1), D.int 0, D.int 1, D.int 99, D.str (Str.ofString ""), D.tup [], D.lst [], D.tup [D.int 0], D.tup [D.int 0, D.int 0], D.tup [D.int 1, D.int 1], D.tup [D.int 0, D.int 0, D.int 0], D.lst [d]]
theorem dp_sm {p : Nat × Nat} (h1 : p.1 ≤ 90) (h2 : p.2 ≤ 90) : Sm 100 1 32 (dp p) := by
  refine (sms_all (b := 100) (k := 0) (w := 15) (xs := [.int p.1, .int p.2]) fun x hx => ?_).tup.up (Int.le_refl _) (by omega) (by simp)
  simp only [List.mem_cons, List.not_mem_nil, or_false] at hx
  rcases hx with rfl | rfl
  · exact sm_int (by omega) (by omega) (by omega) (by omega)
  · exact sm_int (by omega) (by omega) (by omega) (by omega)
theorem dps_sm {P : List (Nat × Nat)} (hl : P.length ≤ 16) (h : InR 60 P) : Sm 100 2 528 (.tup (P.map dp)) := by
  refine (sms_all (b := 100) (k := 1) (w := 32) (xs := P.map dp) fun x hx => ?_).tup.up (Int.le_refl _) (by omega) (by rw [List.length_map]; omega)
  obtain ⟨p, hp, rfl⟩ := List.mem_map.mp hx
  have := h p hp
  exact dp_sm (by omega) (by omega)
/-- what is tried: it can be shown, and is not too long -/
def Trd (d : D) : Prop := Shows d ∧ tlen d ≤ 100
theorem Trd.sht {d : D} (h : Trd d) : Sht d := fun xs e => by
  have := h.2
  rw [e] at this
  show xs.length ≤ 3000
  have : xs.length ≤ 100 := this
  omega
def preMps (m : Nat) (ds : List D) : Prop := m < 3000000 ∧ ∃ (hs : List Int) (L : List Nat),
  ds = [.tup (dints hs), .tup (dnats L)] ∧ 2 ≤ hs.length ∧ hs.length ≤ 16 ∧ LeadP hs L
def psiMps (ds : List D) (m m' : Nat) (d : D) : Prop := m' ≤ m + 4000 ∧ ∃ Y, d = .lst Y ∧ Y.length ≤ 100 ∧ ∀ y ∈ Y, Trd y
theorem cd_tab {ms hs : List Int} {T : List (List (List Int))} {L : List Nat} (hM : MsP ms) (hT : TabP ms hs.length T)
    (hL : LeadP hs L) : TabP ms hs.length (cdT ms T L) := by
  unfold cdT
  rw [hL.len]
  refine mkT_tab fun i j hi hj => ?_
  have hi2 := hL.idx hi
  have hj2 := hL.idx (i := j) (by omega)
  exact webT_tie hM hT hi2.2 hj2.2 fun e => by
    have a := hi2.1
    rw [e, hj2.1] at a
    have := Option.some.inj a
    omega
theorem set_tab {ms : List Int} {n a b : Nat} {T : List (List (List Int))} {r : List (List Int)} {t : List Int}
    (hT : TabP ms n T) (hr : T[a]? = some r) (ht : TieP ms t) : TabP ms n (T.set a (r.set b t)) := by
  refine ⟨by rw [List.length_set]; exact hT.1, fun i r' e => ?_⟩
  by_cases h : a = i
  · subst h
    rw [List.getElem?_set_self (List.getElem?_eq_some_iff.mp hr).1] at e
    cases e
    have hr2 := hT.2 a r hr
    refine ⟨by rw [List.length_set]; exact hr2.1, fun u hu => ?_⟩
    rcases List.mem_or_eq_of_mem_set hu with z | z
    · exact hr2.2 u z
    · rw [z]; exact ht
  · rw [List.getElem?_set_ne h] at e
    exact hT.2 i r' e
theorem cut_set {α : Type} (g : α → D) (xs : List α) (k : Nat) (x : α) (h : k < xs.length) :
    Wt.cutD (xs.map g) none (some (k : Int)) ++ [g x] ++ Wt.cutD (xs.map g) (some ((k : Int) + 1)) none = (xs.set k x).map g := by
  rw [cut_take, show ((k : Int) + 1) = ((k + 1 : Nat) : Int) by omega, cut_drop, List.set_eq_take_append_cons_drop, if_pos h,
    List.map_append, List.map_cons, List.map_take, List.map_drop, List.append_assoc]
  rfl
section
variable {K : PySem.W.Frag} {l : Option Addr} {ρ : Ro} {m : Nat}
variable {Φ : Nat → D → Prop}
theorem e_slOwn {i : Nat} {c : Int} {ds : List D} (hi : ρ[i]? = some (some (.own ds)))
    (q : Φ m (.lst (Wt.cutD ds none (some c)))) :
    EvC K l (tSl (rSlL K) (tVar i) tNoPart (tPart (tC (.int c)))) ρ m Φ := by
  intro Z B H σ Q ok k
  obtain ⟨v, e1, a, xs, rfl, q1, q2, q3, q4, q5⟩ := ok.sl i _ hi
  refine ⟨_, e1, ?_⟩
  refine ⟨c, rfl, a, xs, rfl, SqL.of q1, fun p hp => ?_⟩
  obtain ⟨o4, f4⟩ := ok.new (o := .lst (cutV xs none (some c))) hp
  exact k _ _ m _ _ o4 f4 (.lst upd_same ((q5.mono f4.sub).cut none (some c))) q
end
theorem sc5 {d : D} (h : d ∈ ([.tup (dints [2]), .tup (dints [3]), .tup (dints [2, 2]), .tup (dints [4]), .tup (dints [3, 2])] : List D)) :
    ∃ ms, MsQ ms ∧ d = .tup (dints ms) := by
  have key : ∀ ms : List Int, msB ms = true → D.prod (dints ms) ≤ 30 →
      ∃ ms', MsQ ms' ∧ D.tup (dints ms) = .tup (dints ms') :=
    fun ms h1 h2 => ⟨ms, ⟨MsP.of h1, h2⟩, rfl⟩
  simp only [List.mem_cons, List.not_mem_nil, or_false] at h
  rcases h with rfl | rfl | rfl | rfl | rfl <;> exact key _ rfl (by decide)
theorem sm_trd {b : Int} {k w : Nat} {d : D} (h : Sm b k w d) (hk : k ≤ 100) (hw : w ≤ 200000) (ht : tlen d ≤ 100) : Trd d :=
  ⟨h.itm.show hk hw, ht⟩
theorem lit_trd {c : D} (h : itmB 3 70 c = true) (ht : tlen c ≤ 100) : Trd c := ⟨(Itm.of h).show (by omega) (by omega), ht⟩

/-! ### pairs of data, unlike ones, rising -/
def dfst : D → D
  | .tup [a, _] => a
  | _ => .non
def dsnd : D → D
  | .tup [_, b] => b
  | _ => .non
abbrev dpr (p : D × D) : D := .tup [p.1, p.2]
def UnOk (xs : List D) : Prop := (∃ ns : List Int, xs = dints ns ∧ ns.length < 4000) ∨
  ∃ ts : List (List D), xs = ts.map D.tup ∧ (∀ t ∈ ts, D.keyeds t = true) ∧
    (∀ t ∈ ts, (D.tup t).nk.depth ≤ 8) ∧ ts.length < 64
def preUnD (ds : List D) : Prop := ∃ xs, ds = [.lst xs] ∧ UnOk xs
noncomputable def fUnD : List D → D
  | [.lst xs] => .bl (cB xs.Nodup)
  | _ => .non
theorem fUnD_is (xs : List D) : fUnD [.lst xs] = .bl (cB xs.Nodup) := rfl
theorem dints_nd (ns : List Int) : (dints ns).Nodup ↔ ns.Nodup := by
  unfold dints List.Nodup
  rw [List.pairwise_map]
  exact ⟨fun h => h.imp fun z e => z (congrArg _ e), fun h => h.imp fun z e => z (D.int.inj e)⟩
def Matched (xs : List D) : Prop := xs = xs.mergeSort leD ∧ (xs.map dfst).Nodup ∧ (xs.map dsnd).Nodup
def preMaD (ds : List D) : Prop := ∃ ps : List (D × D), ds = [.tup (ps.map dpr)] ∧ ps.length ≤ 3000 ∧
  PySem.W.AllAlike ((ps.map dpr).map D.py) ∧ (∃ w, ∀ p ∈ ps, Num 60 w (dpr p)) ∧
  UnOk (ps.map (·.1)) ∧ UnOk (ps.map (·.2))
noncomputable def fMaD : List D → D
  | [.tup xs] => .bl (cB (Matched xs))
  | _ => .non
theorem fMaD_is (xs : List D) : fMaD [.tup xs] = .bl (cB (Matched xs)) := rfl
theorem sortable_prs (ps : List (D × D)) : PySem.W.Sortable ((ps.map dpr).map D.py) := by
  refine .inl fun d hd => ?_
  obtain ⟨x, hx, rfl⟩ := List.mem_map.mp hd
  obtain ⟨p, _, rfl⟩ := List.mem_map.mp hx
  exact ⟨_, _, rfl⟩
/-! ### rows and parts -/
theorem alike_ints2 : ∀ (a b : List Int), PySem.W.alikeAll (D.pys (dints a)) (D.pys (dints b)) = true
  | [], _ => by rw [dints, List.map_nil, D.pys]; simp [PySem.W.alikeAll]
  | _ :: _, [] => by simp [dints, D.pys, PySem.W.alikeAll]
  | x :: a, y :: b => by
    show PySem.W.alikeAll (PyData.int x :: D.pys (dints a)) (PyData.int y :: D.pys (dints b)) = true
    rw [PySem.W.alikeAll, alike_ints2 a b]
    simp [PySem.W.alike]
theorem alike_says : ∀ (S U : List (List Int)), PySem.W.alikeAll (D.pys (S.map fun t => D.tup (dints t))) (D.pys (U.map fun t => D.tup (dints t))) = true
  | [], _ => by rw [List.map_nil, D.pys]; simp [PySem.W.alikeAll]
  | _ :: _, [] => by simp [D.pys, PySem.W.alikeAll]
  | x :: a, y :: b => by
    show PySem.W.alikeAll (PyData.tuple (D.pys (dints x)) :: D.pys (a.map fun t => D.tup (dints t))) (PyData.tuple (D.pys (dints y)) :: D.pys (b.map fun t => D.tup (dints t))) = true
    rw [PySem.W.alikeAll, alike_says a b, PySem.W.alike, alike_ints2]
    rfl
theorem py_spot (p : Spot) : (dspot p).py = .tuple [.int p.1, .tuple (D.pys (p.2.map fun t => D.tup (dints t)))] := rfl
theorem alike_spot (p q : Spot) : PySem.W.alike (dspot p).py (dspot q).py = true := by
  rw [py_spot, py_spot, PySem.W.alike, PySem.W.alikeAll, PySem.W.alikeAll, PySem.W.alike, PySem.W.alike, alike_says]
  simp [PySem.W.alikeAll]
abbrev Row := Spot × Spot
abbrev drow (r : Row) : D := .tup [dspot r.1, dspot r.2]
abbrev dpart (P : List Row) : D := .tup (P.map drow)
theorem py_row (r : Row) : (drow r).py = .tuple [(dspot r.1).py, (dspot r.2).py] := rfl
theorem alike_row (p q : Row) : PySem.W.alike (drow p).py (drow q).py = true := by
  rw [py_row, py_row, PySem.W.alike, PySem.W.alikeAll, PySem.W.alikeAll, alike_spot, alike_spot]
  simp [PySem.W.alikeAll]
theorem alike_rows (P : List Row) : PySem.W.AllAlike ((P.map drow).map D.py) := by
  intro d hd d' hd'
  obtain ⟨x, hx, rfl⟩ := List.mem_map.mp hd
  obtain ⟨p, _, rfl⟩ := List.mem_map.mp hx
  obtain ⟨y, hy, rfl⟩ := List.mem_map.mp hd'
  obtain ⟨q, _, rfl⟩ := List.mem_map.mp hy
  exact alike_row p q
theorem lt_spot {p q : Spot} (h : p.1 < q.1) : PySem.W.dataLt (dspot p).py (dspot q).py = true := by
  rw [py_spot, py_spot, PySem.W.dataLt_pair (by simp [PySem.W.alike]) (by rw [PySem.W.alike]; exact alike_says _ _), PySem.W.dataLt_int]
  have e : PyData.eqv (.int (p.1 : Int)) (.int (q.1 : Int)) = false := by
    have : (p.1 : Int) ≠ (q.1 : Int) := by omega
    simp [PyData.eqv, this]
  rw [e, if_neg Bool.false_ne_true, decide_eq_true (by omega)]
theorem sorted_iff (xs : List D) : xs = xs.mergeSort leD ↔ xs.Pairwise fun a b => leD a b = true := by
  constructor
  · intro h
    rw [h]
    exact List.pairwise_mergeSort ((fun a b c h1 h2 => (PySem.W.sortLe_total _ false _).trans a b c h1 h2)) (fun a b => by rw [Bool.or_eq_true]; exact (PySem.W.sortLe_total _ false _).total a b) _
  · intro h
    exact (List.mergeSort_of_pairwise h).symm
structure RowP (ms : List Int) (n : Nat) (r : Row) : Prop where
  fst : PlP ms n r.1.1 r.1.2
  snd : PlP ms n r.2.1 r.2.2
structure PartP (ms : List Int) (n : Nat) (P : List Row) : Prop where
  row : ∀ r ∈ P, RowP ms n r
  ris : P.Pairwise fun p q => leD (drow p) (drow q) = true
  nd1 : (P.map (·.1)).Nodup
  nd2 : (P.map (·.2)).Nodup
def isPart (ms : List Int) (n : Nat) (d : D) : Prop := ∃ P : List Row, d = dpart P ∧ PartP ms n P
def rowB (ms : List Int) (n : Nat) : D → Bool
  | .tup [x, y] => placeB ms n x && placeB ms n y
  | _ => false
theorem rowB_iff {ms : List Int} {n : Nat} {d : D} (hM : MsP ms) : rowB ms n d = true ↔ ∃ r, d = drow r ∧ RowP ms n r := by
  constructor
  · intro h
    unfold rowB at h
    split at h
    · rw [Bool.and_eq_true] at h
      obtain ⟨a, S, rfl, h1⟩ := (placeB_iff hM).mp h.1
      obtain ⟨b, U, rfl, h2⟩ := (placeB_iff hM).mp h.2
      exact ⟨((a, S), (b, U)), rfl, h1, h2⟩
    · cases h
  · rintro ⟨r, rfl, h⟩
    show (placeB ms n (dspot r.1) && placeB ms n (dspot r.2)) = true
    rw [(placeB_iff hM).mpr ⟨_, _, rfl, h.fst⟩, (placeB_iff hM).mpr ⟨_, _, rfl, h.snd⟩]
    rfl
theorem rows_all {ms : List Int} {n : Nat} {xs : List D} (hM : MsP ms) : xs.all (rowB ms n) = true ↔
    ∃ P : List Row, xs = P.map drow ∧ ∀ r ∈ P, RowP ms n r := by
  constructor
  · intro h
    obtain ⟨P, e, hP⟩ := dmap_of (g := drow) (ys := xs) (P := fun _ r => RowP ms n r) fun i y e =>
      (rowB_iff hM).mp (List.all_eq_true.mp h y (List.mem_of_getElem? e))
    refine ⟨P, e, fun p hp => ?_⟩
    obtain ⟨x, hx⟩ := List.getElem?_of_mem hp
    exact hP x p hx
  · rintro ⟨P, rfl, h⟩
    rw [List.all_eq_true]
    intro x hx
    obtain ⟨r, hr, rfl⟩ := List.mem_map.mp hx
    exact (rowB_iff hM).mpr ⟨r, rfl, h r hr⟩
def fRow : List D → D
  | [.ins _ _ [.tup ms, .tup hs], d] => .bl (rowB (uints ms) hs.length d)
  | _ => .non
theorem fRow_is (C : Addr) (ms hs : List Int) (d : D) : fRow [frD C ms hs, d] = .bl (rowB ms hs.length d) := by
  show D.bl (rowB (uints (dints ms)) (dints hs).length d) = _
  rw [uints_dints, dints_length]
def prePart (C : Addr) (ds : List D) : Prop := ∃ ms hs d, ds = [frD C ms hs, d] ∧ MsP ms ∧ hs.length ≤ 16 ∧
  d.plain = true ∧ ∀ xs, d = .tup xs → xs.length < 64
noncomputable def fPart : List D → D
  | [.ins _ _ [.tup ms, .tup hs], d] => .bl (cB (isPart (uints ms) hs.length d))
  | _ => .non
theorem fPart_is (C : Addr) (ms hs : List Int) (d : D) : fPart [frD C ms hs, d] = .bl (cB (isPart ms hs.length d)) := by
  show D.bl (cB (isPart (uints (dints ms)) (dints hs).length d)) = _
  rw [uints_dints, dints_length]
def urow : D → Row
  | .tup [x, y] => (uspot x, uspot y)
  | _ => ((0, []), (0, []))
theorem urow_drow (r : Row) : urow (drow r) = r := by
  show (uspot (dspot r.1), uspot (dspot r.2)) = r
  rw [uspot_dspot, uspot_dspot]
def upart : D → List Row
  | .tup xs => xs.map urow
  | _ => []
theorem upart_dpart (P : List Row) : upart (dpart P) = P := by
  rw [dpart, upart, List.map_map]
  conv => rhs; rw [← List.map_id P]
  exact List.map_congr_left fun r _ => urow_drow r
theorem dpart_inj {P Q : List Row} (h : dpart P = dpart Q) : P = Q := by
  have := congrArg upart h
  rwa [upart_dpart, upart_dpart] at this
theorem spots_nd (L : List Spot) : (L.map dspot).Nodup ↔ L.Nodup := by
  unfold List.Nodup
  rw [List.pairwise_map]
  exact ⟨fun h => h.imp fun z e => z (congrArg _ e), fun h => h.imp fun z e => z (dspot_inj e)⟩
theorem matched_part {ms : List Int} {n : Nat} {P : List Row} (h : ∀ r ∈ P, RowP ms n r) :
    Matched (P.map drow) ↔ PartP ms n P := by
  have e1 : (P.map drow).map dfst = (P.map (·.1)).map dspot := by
    rw [List.map_map, List.map_map]; rfl
  have e2 : (P.map drow).map dsnd = (P.map (·.2)).map dspot := by
    rw [List.map_map, List.map_map]; rfl
  unfold Matched
  rw [sorted_iff, e1, e2, spots_nd, spots_nd, List.pairwise_map]
  exact ⟨fun ⟨a, b, c⟩ => ⟨h, a, b, c⟩, fun z => ⟨z.ris, z.nd1, z.nd2⟩⟩
theorem isPart_iff {ms : List Int} {n : Nat} {P : List Row} : isPart ms n (dpart P) ↔ PartP ms n P := by
  constructor
  · rintro ⟨Q, e, h⟩
    rw [dpart_inj e]; exact h
  · intro h
    exact ⟨P, rfl, h⟩
theorem RowP.num {ms : List Int} {n : Nat} {r : Row} (h : RowP ms n r) (hM : MsP ms) (hn : n ≤ 17) : Num 4 3402 (drow r) := by
  refine (Num.tup (k := 3) (w := 1700) fun x hx => ?_).up (by omega) (by simp)
  simp only [List.mem_cons, List.not_mem_nil, or_false] at hx
  rcases hx with rfl | rfl
  · exact h.fst.num hM hn
  · exact h.snd.num hM hn
theorem keyeds_all : ∀ {xs : List D}, D.keyeds xs = true ↔ ∀ x ∈ xs, x.keyed = true
  | [] => ⟨(fun _ _ z => nomatch z), fun _ => rfl⟩
  | x :: xs => by
    rw [D.keyeds, Bool.and_eq_true, keyeds_all (xs := xs)]
    constructor
    · rintro ⟨h1, h2⟩ y hy
      rcases List.mem_cons.mp hy with rfl | hy
      · exact h1
      · exact h2 y hy
    · intro h
      exact ⟨h x List.mem_cons_self, fun y hy => h y (List.mem_cons_of_mem _ hy)⟩
theorem keyed_tup {xs : List D} (h : ∀ x ∈ xs, x.keyed = true) : (D.tup xs).keyed = true := by
  rw [D.keyed]; exact keyeds_all.mpr h
theorem keyed_ints (t : List Int) : (D.tup (dints t)).keyed = true := keyed_tup fun x hx => by
  obtain ⟨i, _, rfl⟩ := List.mem_map.mp hx
  rfl
theorem keyed_spot (p : Spot) : (dspot p).keyed = true := keyed_tup fun x hx => by
  simp only [List.mem_cons, List.not_mem_nil, or_false] at hx
  rcases hx with rfl | rfl
  · rfl
  · exact keyed_tup fun x hx => by
      obtain ⟨t, _, rfl⟩ := List.mem_map.mp hx
      exact keyed_ints t
theorem depthAll_le {ks : List NestedKey} {c : Nat} (h : ∀ k ∈ ks, k.depth ≤ c) : NestedKey.depthAll ks ≤ c := by
  induction ks with
  | nil => exact Nat.zero_le _
  | cons k ks ih =>
    rw [NestedKey.depthAll]
    have h1 := h k List.mem_cons_self
    have h2 := ih fun x hx => h x (List.mem_cons_of_mem _ hx)
    omega
theorem nks_map : ∀ xs : List D, D.nks xs = xs.map D.nk
  | [] => rfl
  | x :: xs => by rw [D.nks, nks_map xs]; rfl
theorem depth_tup {xs : List D} {c : Nat} (h : ∀ x ∈ xs, x.nk.depth ≤ c) : (D.tup xs).nk.depth ≤ c + 1 := by
  rw [D.nk, NestedKey.depth, nks_map]
  have := depthAll_le (ks := xs.map D.nk) (c := c) fun k hk => by
    obtain ⟨x, hx, rfl⟩ := List.mem_map.mp hk
    exact h x hx
  omega
theorem depth_spot (p : Spot) : (dspot p).nk.depth ≤ 8 := by
  refine Nat.le_trans (depth_tup (c := 7) fun x hx => ?_) (by omega)
  simp only [List.mem_cons, List.not_mem_nil, or_false] at hx
  rcases hx with rfl | rfl
  · exact Nat.zero_le _
  · refine depth_tup (c := 6) fun x hx => ?_
    obtain ⟨t, _, rfl⟩ := List.mem_map.mp hx
    refine depth_tup (c := 5) fun x hx => ?_
    obtain ⟨i, _, rfl⟩ := List.mem_map.mp hx
    exact Nat.zero_le _
theorem unOk_spots {L : List Spot} (h : L.length < 64) : UnOk (L.map dspot) := by
  refine .inr ⟨L.map fun p => [.int p.1, dsays p.2], by rw [List.map_map]; rfl, fun t ht => ?_, fun t ht => ?_, by rw [List.length_map]; exact h⟩
  · obtain ⟨p, _, rfl⟩ := List.mem_map.mp ht
    have := keyed_spot p
    rwa [D.keyed] at this
  · obtain ⟨p, _, rfl⟩ := List.mem_map.mp ht
    exact depth_spot p
theorem rows_pre {ms : List Int} {n : Nat} {P : List Row} (hM : MsP ms) (hn : n ≤ 17) (hl : P.length < 64)
    (h : ∀ r ∈ P, RowP ms n r) : preMaD [dpart P] := by
  refine ⟨P.map fun r => (dspot r.1, dspot r.2), by rw [List.map_map]; rfl, by rw [List.length_map]; omega, ?_, ⟨3402, fun p hp => ?_⟩, ?_, ?_⟩
  · have := alike_rows P
    rw [List.map_map] at this ⊢
    rw [List.map_map]
    exact this
  · obtain ⟨r, hr, rfl⟩ := List.mem_map.mp hp
    exact ((h r hr).num hM hn).up (by omega) (by omega)
  · rw [List.map_map]
    have := unOk_spots (L := P.map (·.1)) (by rw [List.length_map]; exact hl)
    rwa [List.map_map] at this
  · rw [List.map_map]
    have := unOk_spots (L := P.map (·.2)) (by rw [List.length_map]; exact hl)
    rwa [List.map_map] at this
theorem plain_spot (p : Spot) : (dspot p).plain = true := plain_place p.1 p.2
theorem plain_row (r : Row) : (drow r).plain = true := plains_of fun x hx => by
  simp only [List.mem_cons, List.not_mem_nil, or_false] at hx
  rcases hx with rfl | rfl
  · exact plain_spot _
  · exact plain_spot _
theorem plain_part (P : List Row) : (dpart P).plain = true := plains_of fun x hx => by
  obtain ⟨r, _, rfl⟩ := List.mem_map.mp hx
  exact plain_row r

theorem le_row {p q : Row} (h : p.1.1 < q.1.1) : leD (drow p) (drow q) = true := by
  show (!PySem.W.dataLt (drow q).py (drow p).py) = true
  have e0 : PyData.eqv (.int (q.1.1 : Int)) (.int (p.1.1 : Int)) = false := by
    have : (q.1.1 : Int) ≠ (p.1.1 : Int) := by omega
    simp [PyData.eqv, this]
  have e : PyData.eqv (dspot q.1).py (dspot p.1).py = false := by
    cases e1 : PyData.eqv (dspot q.1).py (dspot p.1).py with
    | false => rfl
    | true =>
      rw [py_spot, py_spot] at e1
      simp [PyData.eqv, PyData.eqvAll] at e1
      omega
  rw [py_row, py_row, PySem.W.dataLt_pair (alike_spot _ _) (alike_spot _ _), e, if_neg Bool.false_ne_true]
  rw [py_spot, py_spot, PySem.W.dataLt_pair (by simp [PySem.W.alike]) (by rw [PySem.W.alike]; exact alike_says _ _), PySem.W.dataLt_int, e0, if_neg Bool.false_ne_true, decide_eq_false (by omega)]
  rfl
def stAt (ms : List Int) (T : List (List (List Int))) (i : Nat) : Spot := (standP ms T).getD i (0, [])
theorem stAt_of {ms : List Int} {n : Nat} {T : List (List (List Int))} {i : Nat} (hM : MsP ms) (hT : TabP ms n T) (hi : i < n) :
    (standP ms T)[i]? = some (stAt ms T i) ∧ (stAt ms T i).1 = i ∧ PlP ms n i (stAt ms T i).2 := by
  have hl := stand_lot hM hT
  have hi2 : i < (standP ms T).length := by rw [hl.1]; exact hi
  have e : (standP ms T)[i]? = some (stAt ms T i) := by
    rw [stAt, List.getD_eq_getElem?_getD, List.getElem?_eq_getElem hi2]; rfl
  exact ⟨e, hl.2 i _ e⟩
def preSto (ds : List D) : Prop := ∃ (ms : List Int) (n : Nat) (T : List (List (List Int))) (i : Nat),
  ds = [.tup (dints ms), dtab T, .int i] ∧ MsP ms ∧ n ≤ 16 ∧ TabP ms n T ∧ i < n
def fSto : List D → D
  | [.tup ms, t, .int i] => dspot (stAt (uints ms) (utab t) i.toNat)
  | _ => .non
theorem fSto_is (ms : List Int) (T : List (List (List Int))) (i : Nat) :
    fSto [.tup (dints ms), dtab T, .int i] = dspot (stAt ms T i) := by
  show dspot (stAt (uints (dints ms)) (utab (dtab T)) (i : Int).toNat) = _
  rw [uints_dints, utab_dtab, Int.toNat_natCast]
def poF (ms : List Int) (T U : List (List (List Int))) (P : List (Nat × Nat)) : List Row :=
  P.map fun p => (stAt ms T p.1, stAt ms U p.2)
def prePo (C : Addr) (ds : List D) : Prop := ∃ ms hs T U P, ds = [frD C ms hs, dtab T, dtab U, .tup (P.map dp)] ∧
  MsP ms ∧ hs.length ≤ 16 ∧ TabP ms hs.length T ∧ TabP ms hs.length U ∧ InR hs.length P ∧ P.length ≤ 3000
def fPo : List D → D
  | [.ins _ _ [.tup ms, _], t, u, .tup xs] => dpart (poF (uints ms) (utab t) (utab u) (xs.map upr))
  | _ => .non
theorem fPo_is (C : Addr) (ms hs : List Int) (T U : List (List (List Int))) (P : List (Nat × Nat)) :
    fPo [frD C ms hs, dtab T, dtab U, .tup (P.map dp)] = dpart (poF ms T U P) := by
  show dpart (poF (uints (dints ms)) (utab (dtab T)) (utab (dtab U)) ((P.map dp).map upr)) = _
  rw [uints_dints, utab_dtab, utab_dtab, uprs_dp]
theorem po_part {ms : List Int} {n : Nat} {T U : List (List (List Int))} {P : List (Nat × Nat)} (hM : MsP ms)
    (hT : TabP ms n T) (hU : TabP ms n U) (hP : InR n P) (hm : Mat P) : PartP ms n (poF ms T U P) := by
  have f1 : ∀ p ∈ P, (stAt ms T p.1).1 = p.1 := fun p hp => (stAt_of hM hT (hP p hp).1).2.1
  have f2 : ∀ p ∈ P, (stAt ms U p.2).1 = p.2 := fun p hp => (stAt_of hM hU (hP p hp).2).2.1
  have hm' : P.Pairwise fun p q => (p ∈ P ∧ q ∈ P) ∧ p.1 < q.1 ∧ p.2 ≠ q.2 :=
    List.Pairwise.imp_of_mem (fun {p q} hp hq z => ⟨⟨hp, hq⟩, z⟩) hm
  refine ⟨fun r hr => ?_, ?_, ?_, ?_⟩
  · obtain ⟨p, hp, rfl⟩ := List.mem_map.mp hr
    have h1 := stAt_of hM hT (hP p hp).1
    have h2 := stAt_of hM hU (hP p hp).2
    exact ⟨by show PlP ms n (stAt ms T p.1).1 _; rw [h1.2.1]; exact h1.2.2, by show PlP ms n (stAt ms U p.2).1 _; rw [h2.2.1]; exact h2.2.2⟩
  · unfold poF
    rw [List.pairwise_map]
    refine hm'.imp fun {p q} z => le_row ?_
    show (stAt ms T p.1).1 < (stAt ms T q.1).1
    rw [f1 p z.1.1, f1 q z.1.2]
    exact z.2.1
  · unfold poF List.Nodup
    rw [List.map_map, List.pairwise_map]
    refine hm'.imp fun {p q} z e => ?_
    have e2 : (stAt ms T p.1).1 = (stAt ms T q.1).1 := congrArg (·.1) e
    rw [f1 p z.1.1, f1 q z.1.2] at e2
    omega
  · unfold poF List.Nodup
    rw [List.map_map, List.pairwise_map]
    refine hm'.imp fun {p q} z e => ?_
    have e2 : (stAt ms U p.2).1 = (stAt ms U q.2).1 := congrArg (·.1) e
    rw [f2 p z.1.1, f2 q z.1.2] at e2
    exact z.2.2 e2
theorem po_len (ms : List Int) (T U : List (List (List Int))) (P : List (Nat × Nat)) : (poF ms T U P).length = P.length := by
  rw [poF, List.length_map]
theorem sort_rows {P : List Row} (h : P.Pairwise fun p q => leD (drow p) (drow q) = true) : (P.map drow).mergeSort leD = P.map drow := by
  refine ((sorted_iff _).mpr ?_).symm
  rw [List.pairwise_map]; exact h
theorem sortable_rows (P : List Row) : PySem.W.Sortable ((P.map drow).map D.py) := by
  refine .inl fun d hd => ?_
  obtain ⟨x, hx, rfl⟩ := List.mem_map.mp hd
  obtain ⟨p, _, rfl⟩ := List.mem_map.mp hx
  exact ⟨_, _, py_row p⟩
theorem matched_dps (P : List (Nat × Nat)) : Matched (P.map dp) ↔ Mat P := by
  rw [mat_iff]
  have e1 : (P.map dp).map dfst = dints (P.map fun p => (p.1 : Int)) := by rw [List.map_map, dints, List.map_map]; rfl
  have e2 : (P.map dp).map dsnd = dints (P.map fun p => (p.2 : Int)) := by rw [List.map_map, dints, List.map_map]; rfl
  unfold Matched
  rw [e1, e2, dints_nd, dints_nd]
theorem dps_pre {P : List (Nat × Nat)} (h : InR 60 P) (hl : P.length ≤ 3000) : preMaD [.tup (P.map dp)] := by
  refine ⟨P.map fun p => (D.int p.1, D.int p.2), by rw [List.map_map]; rfl, by rw [List.length_map]; exact hl, ?_, ⟨32, fun p hp => ?_⟩, ?_, ?_⟩
  · have := alike_dps P
    rw [List.map_map] at this ⊢
    rw [List.map_map]
    exact this
  · obtain ⟨q, hq, rfl⟩ := List.mem_map.mp hp
    exact (dps_num (Nat.le_refl _) h (dp q) (List.mem_map.mpr ⟨q, hq, rfl⟩)).up (by omega) (by omega)
  · exact .inl ⟨P.map fun p => (p.1 : Int), by rw [List.map_map, dints, List.map_map]; rfl, by rw [List.length_map]; omega⟩
  · exact .inl ⟨P.map fun p => (p.2 : Int), by rw [List.map_map, dints, List.map_map]; rfl, by rw [List.length_map]; omega⟩
structure LikeP (ms hs : List Int) (T U : List (List (List Int))) (P : List (Nat × Nat)) : Prop where
  inr : InR hs.length P
  mat : Mat P
  hue : Hue hs P
  tis : Tis ms T U P
def preRt22 (C : Addr) (ds : List D) : Prop := ∃ ms hs T U P, ds = [.tup (dints ms), frD C ms hs, dtab T, dtab U, .tup (P.map dp)] ∧
  MsP ms ∧ hs.length ≤ 16 ∧ TabP ms hs.length T ∧ TabP ms hs.length U ∧ LikeP ms hs T U P
theorem LikeP.sub {ms hs : List Int} {T U : List (List (List Int))} {P Q : List (Nat × Nat)} (h : LikeP ms hs T U P) (s : Q.Sublist P) : LikeP ms hs T U Q :=
  ⟨fun p hp => h.inr p (s.mem hp), h.mat.sublist s, fun p hp => h.hue p (s.mem hp), fun p hp q hq => h.tis p (s.mem hp) q (s.mem hq)⟩
theorem LikeP.self {ms hs : List Int} {T U : List (List (List Int))} {P : List (Nat × Nat)} (h : LikeP ms hs T U P) :
    LikeP ms hs T T (P.map fun p => (p.1, p.1)) := by
  refine ⟨fun p hp => ?_, ?_, fun p hp => ?_, fun p hp q hq _ => ?_⟩
  · obtain ⟨q, hq, rfl⟩ := List.mem_map.mp hp
    exact ⟨(h.inr q hq).1, (h.inr q hq).1⟩
  · unfold Mat
    rw [List.pairwise_map]
    exact List.Pairwise.imp (fun {p q} z => ⟨z.1, by omega⟩) h.mat
  · obtain ⟨q, hq, rfl⟩ := List.mem_map.mp hp
    rfl
  · obtain ⟨p', _, rfl⟩ := List.mem_map.mp hp
    obtain ⟨q', _, rfl⟩ := List.mem_map.mp hq
    rfl
def fullP (L : List Nat) : List (Nat × Nat) := (List.range L.length).map fun i => (i, L.getD i 0)
theorem webT_cd {ms hs : List Int} {T : List (List (List Int))} {L : List Nat} {i j a b : Nat} (hM : MsP ms) (hT : TabP ms hs.length T)
    (hL : LeadP hs L) (hi : i < hs.length) (hj : j < hs.length) (hij : i ≠ j) (ha : L[i]? = some a) (hb : L[j]? = some b) :
    webT ms (cdT ms T L) a b = webT ms T i j := by
  have ha2 := (hL.at (b := i) hi).choose_spec
  have xa : L.idxOf a = i := by
    have h1 := hL.idx (i := a) (by obtain ⟨c, hc, hc2⟩ := hL.at (b := i) hi; rw [ha] at hc; cases hc; exact hc2)
    exact hL.inj h1.1 ha
  have xb : L.idxOf b = j := by
    have h1 := hL.idx (i := b) (by obtain ⟨c, hc, hc2⟩ := hL.at (b := j) hj; rw [hb] at hc; cases hc; exact hc2)
    exact hL.inj h1.1 hb
  have hab : a ≠ b := fun e => by rw [e, xb] at xa; omega
  have la : a < L.length := by rw [hL.len]; obtain ⟨c, hc, hc2⟩ := hL.at (b := i) hi; rw [ha] at hc; cases hc; exact hc2
  have lb : b < L.length := by rw [hL.len]; obtain ⟨c, hc, hc2⟩ := hL.at (b := j) hj; rw [hb] at hc; cases hc; exact hc2
  have e1 : webT ms (cdT ms T L) a b = if b < a then webT ms T i j else negF ms (webT ms T j i) := by
    unfold webT cdT
    by_cases h : b < a
    · rw [if_pos h, if_pos h, mkT_tt la h, xa, xb]
      rfl
    · rw [if_neg h, if_neg h, mkT_tt lb (show a < b by omega), xa, xb]
      rfl
  rw [e1]
  split
  · rfl
  · exact (webT_neg hM hT hi hj hij).symm
theorem full_like {ms hs : List Int} {T : List (List (List Int))} {L : List Nat} (hM : MsP ms) (hT : TabP ms hs.length T)
    (hL : LeadP hs L) : LikeP ms hs T (cdT ms T L) (fullP L) := by
  have hl := hL.len
  have at' : ∀ p ∈ fullP L, p.1 < hs.length ∧ p.2 < hs.length ∧ L[p.1]? = some p.2 := fun p hp => by
    obtain ⟨i, hi, rfl⟩ := List.mem_map.mp hp
    have hi := List.mem_range.mp hi
    obtain ⟨c, hc, hc2⟩ := hL.at (b := i) (by omega)
    show i < hs.length ∧ L.getD i 0 < hs.length ∧ L[i]? = some (L.getD i 0)
    rw [natD_of hc]
    exact ⟨by omega, hc2, hc⟩
  refine ⟨fun p hp => ⟨(at' p hp).1, (at' p hp).2.1⟩, ?_, fun p hp => ?_, fun p hp q hq hne => ?_⟩
  · unfold fullP Mat
    rw [List.pairwise_map]
    refine List.Pairwise.imp_of_mem (fun {i j} hi hj z => ?_) List.pairwise_lt_range
    refine ⟨z, fun e => ?_⟩
    have h1 := (at' (i, L.getD i 0) (List.mem_map.mpr ⟨i, hi, rfl⟩)).2.2
    have h2 := (at' (j, L.getD j 0) (List.mem_map.mpr ⟨j, hj, rfl⟩)).2.2
    have e : L.getD i 0 = L.getD j 0 := e
    have h1 : L[i]? = some (L.getD i 0) := h1
    have h2 : L[j]? = some (L.getD j 0) := h2
    rw [e] at h1
    have := hL.inj h1 h2
    omega
  · have h := at' p hp
    exact ((hL.hue p.1 p.2 h.2.2).2).symm
  · have h := at' p hp
    have h' := at' q hq
    exact (webT_cd hM hT hL h.1 h'.1 hne h.2.2 h'.2.2).symm
theorem st_tie {ms : List Int} {n : Nat} {T : List (List (List Int))} {i j : Nat} (hM : MsP ms) (hT : TabP ms n T)
    (hi : i < n) (hj : j < n) (hij : i ≠ j) :
    lessF ms ((stAt ms T i).2.getD j []) ((stAt ms T j).2.getD i []) = webT ms T i j :=
  stand_web hM hT hi hj hij
theorem stAt_is {ms : List Int} {n : Nat} {T : List (List (List Int))} {i : Nat} (hM : MsP ms) (hT : TabP ms n T) (hi : i < n) :
    dspot (stAt ms T i) = dplace i (stAt ms T i).2 := by
  show D.tup [.int ((stAt ms T i).1 : Nat), _] = D.tup [.int (i : Nat), _]
  rw [(stAt_of hM hT hi).2.1]

local macro_rules | `(tactic| walk_at "ev1") => `(tactic| first
  | with_reducible refine Wl.v_rep0 (by assumption) ?_
  | ((with_reducible refine And.intro Wl.pStem ?_); (rw [Wl.fStem_is]))
  | ((with_reducible refine And.intro (Wl.pNou (by assumption)) ?_); (rw [Wl.fNou_is]))
  | ((with_reducible refine And.intro (Wl.pTT (by assumption) (by assumption) (by assumption)) ?_); (first | rw [Wl.fSum_is] | rw [Wl.fLess_is])))
local macro_rules | `(tactic| walk_at "yes") => `(tactic| first | rw [if_pos (decide_eq_true (by assumption))] | rw [if_pos (decide_eq_true (by omega))])
local macro_rules | `(tactic| walk_at "no") => `(tactic| first | rw [if_neg (by rw [decide_eq_false (by assumption)]; exact Bool.false_ne_true)] | rw [if_neg (by rw [decide_eq_false (by omega)]; exact Bool.false_ne_true)])
section
variable {P : Program} {w : World} {K : PySem.W.Frag}
variable {mg : Str → Option Value} {base : Heap} {cFrame : Addr}
theorem ok_is_whole {f : Addr} {fd : FuncData} (F : Fun K "is_whole" "is_whole" s_is_whole f fd)
    (m_bool : mg "bool" = none)
    (m_int : mg "int" = none)
    (m_isinstance : mg "isinstance" = none) :
    FnOk P w K mg base CX0 1 f fd ["thing"] (SpP K preWhole fWhole) := by
  refine F.ok sc_is_whole (fun vs H Q E h => ?len) (fun cdv A outer s H vs Q E hr h => ⟨_, (pss_one (ps_ret (pe_and (pe_callB (show CallR _ _ (rIsi K) from call_isi) (by rfl) m_isinstance (by decide +kernel) (pa_cons (pv 0) (pa_cons (pe_bltn (v := .ty "int") (by rfl) m_int (by decide +kernel) rfl) pa_nil))) (pe_one (pe_not (pe_callB (show CallR _ _ (rIsi K) from call_isi) (by rfl) m_isinstance (by decide +kernel) (pa_cons (pv 0) (pa_cons (pe_bltn (v := .ty "bool") (by rfl) m_bool (by decide +kernel) rfl) pa_nil)))))))), ?r⟩)
  case len =>
    obtain ⟨B, ds, _, is, ⟨d, rfl, _⟩, _⟩ := h
    exact is.length
  case r =>
    refine body_P h fun ds hp hl => ?_
    obtain ⟨d, rfl, ho⟩ := hp
    refine s_ret (e_andV (e_isi kit_int (e_var rfl ⟨ho, _, rfl, ?_⟩)))
    cases d <;> first | (cases ho; done) | (exact rfl) | skip
    all_goals
      refine e_notV (e_isi kit_bool (e_var rfl ⟨rfl, _, rfl, ?_⟩))
      rfl

theorem ok_is_tuple_of {f : Addr} {fd : FuncData} (F : Fun K "is_tuple_of" "is_tuple_of" s_is_tuple_of f fd)
    (m_isinstance : mg "isinstance" = none)
    (m_len : mg "len" = none)
    (m_tuple : mg "tuple" = none) :
    FnOk P w K mg base CX0 1 f fd ["thing", "many"] (SpP K preTupOf fTupOf) := by
  refine F.ok sc_is_tuple_of (fun vs H Q E h => ?len) (fun cdv A outer s H vs Q E hr h => ⟨_, (pss_one (ps_ret (pe_and (pe_callB (show CallR _ _ (rIsi K) from call_isi) (by rfl) m_isinstance (by decide +kernel) (pa_cons (pv 0) (pa_cons (pe_bltn (v := .ty "tuple") (by rfl) m_tuple (by decide +kernel) rfl) pa_nil))) (pe_one (pe_cmpR op_eq (pe_callB (show CallR _ _ (rLenQ K) from call_len_seq) (by rfl) m_len (by decide +kernel) (pa_cons (pv 0) pa_nil)) (pv 1) (nomark _)))))), ?r⟩)
  case len =>
    obtain ⟨B, ds, _, is, ⟨d, n, rfl, _⟩, _⟩ := h
    exact is.length
  case r =>
    refine body_P h fun ds hp hl => ?_
    obtain ⟨d, n, rfl, ho⟩ := hp
    walk_at "body"
    walk_at "ev"
    refine ⟨ho, ?_⟩
    walk_at "ev"
    cases d with
    | tup xs =>
      show EvC _ _ _ _ _ _
      walk_at "ev"
      rfl
    | _ => exact rfl

theorem ok_product {f : Addr} {fd : FuncData} (F : Fun K "product" "product" s_product f fd)
 :
    FnOk P w K mg base CX0 1 f fd ["numbers"] (SpP K preProd fProd) := by
  refine F.ok sc_product (fun vs H Q E h => ?len) (fun cdv A outer s H vs Q E hr h => ⟨_, (pss_cons (ps_set (i := 1) sc_product.nd rfl (by first | exact Or.inl rfl | exact Or.inr rfl) pe_int)
      (pss_cons (ps_for PassesOwn.never rfl (pi_tup (pv 0)) (pg_name (i := 2) sc_product.nd rfl (by first | exact Or.inl rfl | exact Or.inr rfl)) (pss_one (ps_aug (i := 1) sc_product.nd rfl (by first | exact Or.inl rfl | exact Or.inr rfl) (pv 2) iop_mul)))
      (pss_one (ps_ret (pv 1))))), ?r⟩)
  case len =>
    obtain ⟨B, ds, _, is, ⟨ns, rfl, _⟩, _⟩ := h
    exact is.length
  case r =>
    refine body_P h fun ds hp hl => ?_
    obtain ⟨ns, rfl, hn⟩ := hp
    refine s_seq (s_asg (e_int ?_))
    refine s_seq (s_forT (e_var rfl ⟨_, rfl, fun i _ ρ' => ∃ x, ρ' = [some (.dat (.tup (dints ns))), some (.dat (.int (D.prod (dints (ns.take i))))), x], ⟨_, rfl⟩, ?_, ?_⟩))
    · intro i n ρ' d hd hI
      obtain ⟨x, rfl⟩ := hI
      have hi : i < ns.length := by
        have := (List.getElem?_eq_some_iff.mp hd).1
        simpa [dints] using this
      have ed : d = .int ns[i] := by
        rw [dints, List.getElem?_map, List.getElem?_eq_getElem hi] at hd
        exact (Option.some.inj hd).symm
      subst ed
      have hb := hn ns[i] (List.getElem_mem hi)
      refine s_aug rfl (e_var rfl (v_I (.inr ⟨by omega, by omega⟩) ?_))
      refine ⟨some (.dat (.int ns[i])), ?_⟩
      rw [prod_take hi]
      rfl
    · intro n ρ' hI
      obtain ⟨x, rfl⟩ := hI
      have e : ns.take (dints ns).length = ns := by
        rw [dints, List.length_map, List.take_length]
      rw [e]
      exact s_ret (e_var rfl rfl)

theorem ok_are_unlike {f : Addr} {fd : FuncData} (F : Fun K "are_unlike" "are_unlike" s_are_unlike f fd)
    (m_len : mg "len" = none)
    (m_set : mg "set" = none) :
    FnOk P w K mg base CX0 1 f fd ["things"] (SpP K preUnD fUnD) := by
  refine F.ok sc_are_unlike (fun vs H Q E h => ?len) (fun cdv A outer s H vs Q E hr h => ⟨_, (pss_one (ps_ret (pe_cmpR op_eq (pe_lenSetE hr.units rfl (by rfl) m_len (by rfl) m_set (pv 0)) (pe_callB (show CallR _ _ (rLenQ K) from call_len_seq) (by rfl) m_len (by decide +kernel) (pa_cons (pv 0) pa_nil)) (nomark _)))), ?r⟩)
  case len =>
    obtain ⟨B, ds, _, is, ⟨xs, rfl, _⟩, _⟩ := h
    exact is.length
  case r =>
    refine body_P h fun ds hp hl => ?_
    obtain ⟨xs, rfl, hx⟩ := hp
    rw [fUnD_is]
    walk_at "body"
    walk_at "ev"
    refine e_lenSetE ?_
    walk_at "ev"
    rcases hx with ⟨ns, rfl, hn⟩ | ⟨ts, rfl, h1, h2, h3⟩
    · refine .inl ⟨ns, rfl, hn, fun c hc => ?_⟩
      walk_at "ev"
      rw [dints_length]
      have e : decide ((c : Int) = (ns.length : Int)) = cB (dints ns).Nodup := cB_eq (by
        rw [decide_eq_true_eq, dints_nd, ← dist_full hc]
        omega)
      rw [e]
    · refine .inr ⟨ts, rfl, h1, h2, h3, fun c hc => ?_⟩
      walk_at "ev"
      have e : decide ((c : Int) = ((ts.map D.tup).length : Int)) = cB (ts.map D.tup).Nodup := cB_eq (by
        rw [decide_eq_true_eq, ← distD_full hc]
        omega)
      rw [e]

theorem ok_nought {f : Addr} {fd : FuncData} (F : Fun K "nought" "nought" s_nought f fd)
    (m_len : mg "len" = none) :
    FnOk P w K mg base CX0 1 f fd ["measure"] (SpP K preMs1 fNou) := by
  refine F.ok sc_nought (fun vs H Q E h => ?len) (fun cdv A outer s H vs Q E hr h => ⟨_, (pss_one (ps_ret (pe_op (show OpR _ _ (rRepA K) from op_repA) (pe_tupC (pa_cons pe_int pa_nil)) (pe_callB (show CallR _ _ (rLenQ K) from call_len_seq) (by rfl) m_len (by decide +kernel) (pa_cons (pv 0) pa_nil))))), ?r⟩)
  case len =>
    obtain ⟨B, ds, _, is, ⟨ms, rfl, _⟩, _⟩ := h
    exact is.length
  case r =>
    refine body_P h fun ds hp hl => ?_
    obtain ⟨ms, rfl, hM⟩ := hp
    rw [fNou_is]
    walk_at "body"
    walk_at "ev"
    rfl

theorem ok_tie_less {f : Addr} {fd : FuncData} (F : Fun K "tie_less" "tie_less" s_tie_less f fd)
    (m_tuple : mg "tuple" = none)
    (m_zip : mg "zip" = none) :
    FnOk P w K mg base CX0 1 f fd ["measure", "one", "other"] (SpP K preTT fLess) := by
  refine F.ok sc_tie_less (fun vs H Q E h => ?len) (fun cdv A outer s H vs Q E hr h => ⟨_, (pss_one (ps_ret (pe_callTy (show CallR _ _ (rTupC K) from call_tupC) (by rfl) m_tuple (by decide +kernel) (pa_cons (pe_lc (own := [("left", 3), ("right", 4), ("limit", 5)]) (g := gTup K 3 (gCons (gName 3) (gCons (gName 4) (gCons (gName 5) gNil)))) (tt := tYes) rfl sc_tie_less.nd (pi_zip3 (by rfl) m_zip (pa_cons (pv 1) (pa_cons (pv 2) (pa_cons (pv 0) pa_nil)))) (blkOk_by (own := [("left", 3), ("right", 4), ("limit", 5)]) (N := ["measure", "one", "other", "left", "right", "limit"]) (sc := defScope s_tie_less) (by decide +kernel)) (fun _ _ _ _ _ => (pg_tup rfl (pgs_cons (pg_name (i := 3) sc_tie_less.nd rfl (by first | exact Or.inl rfl | exact Or.inr rfl)) (pgs_cons (pg_name (i := 4) sc_tie_less.nd rfl (by first | exact Or.inl rfl | exact Or.inr rfl)) (pgs_cons (pg_name (i := 5) sc_tie_less.nd rfl (by first | exact Or.inl rfl | exact Or.inr rfl)) pgs_nil))))) (fun _ _ _ _ _ => pts_nil) (fun _ _ _ _ _ => (pe_op op_mod (pe_op op_sub (pv 3) (pv 4)) (pv 5)))) pa_nil)))), ?r⟩)
  case len =>
    obtain ⟨B, ds, _, is, ⟨ms, a, b, rfl, _⟩, _⟩ := h
    exact is.length
  case r =>
    refine body_P h fun ds hp hl => ?_
    obtain ⟨ms, a, b, rfl, hM, ha, hb⟩ := hp
    have h3 := hM.2.1
    have h4 := ha.1
    walk_at "body"
    refine s_ret (e_cb (a_cons (e_lcZ3i (f := fun x y m => (x - y) % m) rfl rfl rfl (by decide) (by decide) (by decide) ?_)))
    walk_at "ev"
    refine ⟨a, b, ms, rfl, by omega, ?_, ?_⟩
    · intro c x y z e1 e2 e3
      have hz : 0 < z := by have := hM.2.2 z (List.mem_of_getElem? e3); omega
      walk_at "ev"
      rfl
    · walk_at "ev"
      show D.tup _ = D.tup (dints (lessF _ _ _))
      rw [uints_dints, uints_dints, uints_dints, lessF]

theorem ok_table_tie {f : Addr} {fd : FuncData} (F : Fun K "table_tie" "table_tie" s_table_tie f fd)
    (m_max : mg "max" = none)
    (m_min : mg "min" = none) :
    FnOk P w K mg base CX0 1 f fd ["table", "one", "other"] (SpP K preTab fTab) := by
  refine F.ok sc_table_tie (fun vs H Q E h => ?len) (fun cdv A outer s H vs Q E hr h => ⟨_, (pss_one (ps_ret (pe_ix (show IxR _ (rIxT K) from ix_tup) (pe_ix (show IxR _ (rIxT K) from ix_tup) (pv 0) (pe_callB (call_max2 rfl) (by rfl) m_max (by decide +kernel) (pa_cons (pv 1) (pa_cons (pv 2) pa_nil))) (fun _ _ => rfl)) (pe_callB (call_min2 rfl) (by rfl) m_min (by decide +kernel) (pa_cons (pv 1) (pa_cons (pv 2) pa_nil))) (fun _ _ => rfl)))), ?r⟩)
  case len =>
    obtain ⟨B, ds, _, is, ⟨t, i, j, r, d, rfl, _⟩, _⟩ := h
    exact is.length
  case r =>
    refine body_P h fun ds hp hl => ?_
    obtain ⟨t, i, j, r, d, rfl, hi, hj, h1, h2⟩ := hp
    have e : tabAt t i j = d := by
      unfold tabAt
      rw [h1]
      show (dsub r _).getD _ = d
      rw [h2]; rfl
    cases t with
    | tup xs =>
      cases r with
      | tup ys =>
        walk_at "body"
        walk_at "ev"
        refine v_ixT (d := .tup ys) (by split <;> omega) h1 ?_
        walk_at "ev"
        refine v_ixT (d := d) (by split <;> omega) h2 ?_
        exact e.symm
      | _ => cases h2
    | _ => cases h1

theorem ok_keeps_hues {f : Addr} {fd : FuncData} (F : Fun K "keeps_hues" "keeps_hues" s_keeps_hues f fd)
    (k_Frame : Own2 K cFrame "measure" "hues")
    (m_all : mg "all" = none) :
    FnOk P w K mg base CX0 1 f fd ["frame", "pairs"] (SpP K (preKh cFrame) fKh) := by
  refine F.ok sc_keeps_hues (fun vs H Q E h => ?len) (fun cdv A outer s H vs Q E hr h => ⟨_, (pss_one (ps_ret (pe_callB (show CallR _ _ (rAll K) from cr_all rfl) (by rfl) m_all (by decide +kernel) (pa_cons (pe_lc (own := [("one", 2), ("like", 3)]) (g := gTup K 2 (gCons (gName 2) (gCons (gName 3) gNil))) (tt := tYes) rfl sc_keeps_hues.nd (pi_tup (pv 1)) (blkOk_by (own := [("one", 2), ("like", 3)]) (N := ["frame", "pairs", "one", "like"]) (sc := defScope s_keeps_hues) (by decide +kernel)) (fun _ _ _ _ _ => (pg_tup rfl (pgs_cons (pg_name (i := 2) sc_keeps_hues.nd rfl (by first | exact Or.inl rfl | exact Or.inr rfl)) (pgs_cons (pg_name (i := 3) sc_keeps_hues.nd rfl (by first | exact Or.inl rfl | exact Or.inr rfl)) pgs_nil)))) (fun _ _ _ _ _ => pts_nil) (fun _ _ _ _ _ => (pe_cmpR (show OpR _ _ (rEqD K) from op_eqD hr.units) (pe_ix (show IxR _ (rIxT K) from ix_tup) (pe_fldK (K := K) rfl (pv 0) rfl) (pv 2) (fun _ _ => rfl)) (pe_ix (show IxR _ (rIxT K) from ix_tup) (pe_fldK (K := K) rfl (pv 0) rfl) (pv 3) (fun _ _ => rfl)) (nomark _)))) pa_nil)))), ?r⟩)
  case len =>
    obtain ⟨B, ds, _, is, ⟨ms, hs, P, rfl, _⟩, _⟩ := h
    exact is.length
  case r =>
    refine body_P h fun ds hp hl => ?_
    obtain ⟨ms, hs, P, rfl, hP, hn⟩ := hp
    rw [fKh_is]
    walk_at "body"
    walk_at "ev"
    refine e_lcT2f (i := 2) (j := 3) rfl rfl (by decide) ?_
    walk_at "ev"
    refine ⟨Nat × Nat, P, fun p => .int p.1, fun p => .int p.2, fun p => .bl (decide (hs.getD p.1 0 = hs.getD p.2 0)), rfl, by omega, fun c p hp => ?_, ?_⟩
    · have hp2 := hP p (List.mem_of_getElem? hp)
      have g : ∀ y, y < hs.length → (dints hs)[y]? = some (.int (hs.getD y 0)) := fun y hy => by
        rw [dints, List.getElem?_map, List.getD_eq_getElem?_getD, List.getElem?_eq_getElem hy]
        rfl
      have g1 := g p.1 hp2.1
      have g2 := g p.2 hp2.2
      walk_at "ro"
      walk_at "ev"
      rfl
    refine a_nil (v_allM ?_)
    have e : (P.all fun p => decide (hs.getD p.1 0 = hs.getD p.2 0)) = cB (Hue hs P) := cB_eq (by
      rw [List.all_eq_true]
      have key : ∀ p ∈ P, decide (hs.getD p.1 0 = hs.getD p.2 0) = true ↔ hs[p.1]? = hs[p.2]? := fun p hp => by
        have hp2 := hP p hp
        rw [decide_eq_true_eq, List.getD_eq_getElem?_getD, List.getD_eq_getElem?_getD, List.getElem?_eq_getElem hp2.1, List.getElem?_eq_getElem hp2.2]
        simp
      exact ⟨fun h p hp => (key p hp).mp (h p hp), fun h p hp => (key p hp).mpr (h p hp)⟩)
    rw [e]

theorem ok_Frame_stem_count {f : Addr} {fd : FuncData} (F : Fun K "stem_count" "Frame.stem_count" s_Frame_stem_count f fd)
    (k_Frame : Own2 K cFrame "measure" "hues")
    (m_len : mg "len" = none) :
    FnOk P w K mg base CX0 1 f fd ["self"] (SpP K (preStem cFrame) fStem) := by
  refine F.ok sc_Frame_stem_count (fun vs H Q E h => ?len) (fun cdv A outer s H vs Q E hr h => ⟨_, (pss_one (ps_ret (pe_callB (show CallR _ _ (rLenQ K) from call_len_seq) (by rfl) m_len (by decide +kernel) (pa_cons (pe_fldK (K := K) rfl (pv 0) rfl) pa_nil)))), ?r⟩)
  case len =>
    obtain ⟨B, ds, _, is, ⟨ms, hs, rfl⟩, _⟩ := h
    exact is.length
  case r =>
    refine body_P h fun ds hp hl => ?_
    obtain ⟨ms, hs, rfl⟩ := hp
    walk_at "body"
    walk_at "ev"
    rfl

theorem ok__law_hand {f : Addr} {fd : FuncData} (F : Fun K "_law_hand" "_law_hand" s__law_hand f fd)
    (m_abs : mg "abs" = none)
    (m_int : mg "int" = none)
    (m_len : mg "len" = none) :
    FnOk P w K mg base CX0 1 f fd ["_law_script", "_law_k"] (SpR K preHand fun _ d => isHand d) := by
  refine F.ok sc__law_hand (fun vs H Q E h => ?len) (fun cdv A outer s H vs Q E hr h => ⟨_, (pss_cons (ps_set (i := 2) sc__law_hand.nd rfl (by first | exact Or.inl rfl | exact Or.inr rfl) (pe_ifExp (pt_cmpR op_lt (pv 1) (pe_callB (show CallR _ _ (rLenQ K) from call_len_seq) (by rfl) m_len (by decide +kernel) (pa_cons (pv 0) pa_nil)) (nomark _)) (pe_ix (show IxR _ (rIxL K) from ix_list) (pv 0) (pv 1) (fun _ _ => rfl)) (pe_op op_add (pe_op op_mul pe_int (pv 1)) pe_int)))
      (pss_cons (ps_set (i := 3) sc__law_hand.nd rfl (by first | exact Or.inl rfl | exact Or.inr rfl) (pe_op op_mulW (pe_op op_mod (pe_callB call_abs (by rfl) m_abs (by decide +kernel) (pa_cons (pv 2) pa_nil)) (pe_op op_powW (pe_op op_pow pe_int pe_int) pe_int)) (pe_callTy call_int1 (by rfl) m_int (by decide +kernel) (pa_cons (pe_cmpR op_ge (pe_callB call_abs (by rfl) m_abs (by decide +kernel) (pa_cons (pv 2) pa_nil)) (pe_op op_pow pe_int pe_int) (nomark _)) pa_nil))))
      (pss_one (ps_ret (pe_lst (pa_cons (pv 3) (pa_cons (pe_op op_mod (pe_op op_add (pe_op op_add (pe_op op_mul (pe_op op_mod (pv 2) pe_int) pe_int) (pe_op op_mul pe_int (pv 1))) pe_int) pe_int) (pa_cons pe_int pa_nil)))))))), ?r⟩)
  case len =>
    obtain ⟨B, ds, _, is, ⟨ns, k, rfl, _⟩, _⟩ := h
    exact is.length
  case r =>
    refine body_R h fun ds hp hl => ?_
    obtain ⟨ns, k, rfl, h0, h1⟩ := hp
    walk_at "body"
    walk_at "ev"
    by_cases hk : k < ns.length
    rw [if_pos (decide_eq_true hk)]
    walk_at "ev"
    refine v_ixS h0 (List.getElem?_eq_getElem (by omega)) ?_
    generalize ns[k.toNat] = c
    rotate_left
    rw [if_neg (by rw [decide_eq_false hk]; exact Bool.false_ne_true)]
    walk_at "ev"
    generalize 7 * k + 3 = c
    all_goals
      walk_at "ev"
      rw [show (((10 : Int) ^ (60 : Int).toNat) ^ (10 : Int).toNat) = 10 ^ 600 by decide +kernel]
      refine v_I ?_ ?_
      · exact hand_mul _ _
      · walk_at "ev"
        exact hand_is _ _ _ _

theorem ok__law_take {f : Addr} {fd : FuncData} (F : Fun K "_law_take" "_law_take" s__law_take f fd)
 :
    FnOk P w K mg base CX0 1 f fd ["_law_hand_here", "_law_many"] (SpH K preTake psiTake) := by
  refine F.ok sc__law_take (fun vs H Q E h => ?len) (fun cdv A outer s H vs Q E hr h => ⟨_, (pss_cons (ps_if (pt_cmpR op_gt (pe_ix (show IxR _ (rIxL K) from ix_list) (pv 0) pe_int (fun _ _ => rfl)) pe_int (nomark _)) (pss_cons (ps_set (i := 4) sc__law_take.nd rfl (by first | exact Or.inl rfl | exact Or.inr rfl) (pe_op op_mod (pe_ix (show IxR _ (rIxL K) from ix_list) (pv 0) pe_int (fun _ _ => rfl)) (pv 1)))
      (pss_cons (ps_asg (pe_op op_fdivW (pe_ix (show IxR _ (rIxL K) from ix_list) (pv 0) pe_int (fun _ _ => rfl)) (pv 1)) (pg_sub (pv 0) pe_int set_list))
      (pss_one (ps_ret (pv 4))))) pss_nil)
      (pss_cons (ps_asg (pe_op op_add (pe_ix (show IxR _ (rIxL K) from ix_list) (pv 0) pe_int (fun _ _ => rfl)) pe_int) (pg_sub (pv 0) pe_int set_list))
      (pss_cons (ps_set (i := 2) sc__law_take.nd rfl (by first | exact Or.inl rfl | exact Or.inr rfl) (pe_ix (show IxR _ (rIxL K) from ix_list) (pe_lst (pa_cons pe_int (pa_cons pe_int (pa_cons pe_int (pa_cons pe_int (pa_cons pe_int (pa_cons pe_int (pa_cons pe_int pa_nil)))))))) (pe_op op_mod (pe_ix (show IxR _ (rIxL K) from ix_list) (pv 0) pe_int (fun _ _ => rfl)) pe_int) (fun _ _ => rfl)))
      (pss_cons (ps_set (i := 3) sc__law_take.nd rfl (by first | exact Or.inl rfl | exact Or.inr rfl) (pe_op op_mod (pe_op op_pow (pe_op op_add (pe_op op_add (pe_ix (show IxR _ (rIxL K) from ix_list) (pv 0) pe_int (fun _ _ => rfl)) (pe_op op_mul (pe_op op_mul pe_int (pe_ix (show IxR _ (rIxL K) from ix_list) (pv 0) pe_int (fun _ _ => rfl))) (pe_ix (show IxR _ (rIxL K) from ix_list) (pv 0) pe_int (fun _ _ => rfl)))) pe_int) pe_int) (pv 2)))
      (pss_one (ps_ret (pe_op op_mod (pe_op op_fdiv (pe_op op_mod (pe_op op_mul (pv 3) (pe_op op_add (pe_op op_mod (pv 3) pe_int) (pe_op op_mul pe_int (pe_ix (show IxR _ (rIxL K) from ix_list) (pv 0) pe_int (fun _ _ => rfl))))) pe_int) pe_int) (pv 1)))))))), ?r⟩)
  case len =>
    obtain ⟨l, ws, B, ds, m, rfl, _, _, _, is, ⟨_, n, rfl, _⟩, _⟩ := h
    show ws.length + 1 = 2
    rw [is.length]; rfl
  case r =>
    refine body_H h fun a ds m hp hl => ?_
    obtain ⟨hm, n, rfl, hn, hn2⟩ := hp
    have hmod : ∀ x : Int, 0 ≤ x % n ∧ x % n < n := fun x =>
      ⟨Int.emod_nonneg x (by omega), Int.emod_lt_of_pos x hn⟩
    walk_at "body"
    walk_at "ev"
    rename_i g g1 g2
    cases decide (0 < g) with
    | true =>
      show SvC _ _ _ _ _ _ _
      walk_at "ev"
      refine s_hand0 rfl ?_
      walk_at "ev"
      rename_i g' g1' g2' g3 g4 g5
      refine v_I ?_ ?_
      · exact wide_div (b := 60) hn (by omega) (by decide) (by decide)
      · have d1 := Int.ediv_nonneg g4 (Int.le_of_lt hn)
        have d2 := Int.ediv_le_self n g4
        refine ⟨_, rfl, d1, by omega, ?_⟩
        exact s_ret (e_var rfl ⟨by omega, n, _, rfl, rfl, hmod g'⟩)
    | false =>
      refine s_next ?_
      walk_at "ev"
      refine s_hand2 rfl ?_
      walk_at "ev"
      rename_i c c1 c2
      refine ⟨_, m + 1, rfl, by omega, by omega, ?_⟩
      walk_at "ev"
      rename_i c3 d1 d2
      obtain ⟨p, hp1, hp2, hp3⟩ := primes_at (Int.emod_nonneg c3 (by decide)) (Int.emod_lt_of_pos c3 (by decide))
      refine v_ixL (Int.emod_nonneg c3 (by decide)) hp1 ?_
      walk_at "ev"
      rename_i sd s1 s2 c4 x1 x2 c5 y1 y2
      refine v_I (.inr ⟨by omega, by omega⟩) ?_
      walk_at "ev"
      refine v_I ?_ ?_
      · exact ⟨by decide, by decide, take_base s1 s2 x1 (by omega) y1 (by omega)⟩
      walk_at "ev"
      have b1 := Int.emod_nonneg ((sd + 7919 * c4 * c5 + 31) ^ (3 : Int).toNat) (show p ≠ 0 by omega)
      have b2 := Int.emod_lt_of_pos ((sd + 7919 * c4 * c5 + 31) ^ (3 : Int).toNat) hp2
      generalize (sd + 7919 * c4 * c5 + 31) ^ (3 : Int).toNat % p = dr at b1 b2 ⊢
      walk_at "ev"
      refine v_I (.inl ⟨by omega, by omega⟩) ?_
      walk_at "ev"
      exact ⟨Nat.le_refl _, n, _, rfl, rfl, hmod _⟩

theorem ok__law_less {f : Addr} {fd : FuncData} (F : Fun K "_law_less" "_law_less" s__law_less f fd)
    (m_tuple : mg "tuple" = none)
    (m_zip : mg "zip" = none) :
    FnOk P w K mg base CX0 1 f fd ["_law_scale_here", "_law_here", "_law_there"] (SpP K preTT fLess) := by
  refine F.ok sc__law_less (fun vs H Q E h => ?len) (fun cdv A outer s H vs Q E hr h => ⟨_, (pss_one (ps_ret (pe_callTy (show CallR _ _ (rTupC K) from call_tupC) (by rfl) m_tuple (by decide +kernel) (pa_cons (pe_lc (own := [("_law_mine", 3), ("_law_its", 4), ("_law_size", 5)]) (g := gTup K 3 (gCons (gName 3) (gCons (gName 4) (gCons (gName 5) gNil)))) (tt := tYes) rfl sc__law_less.nd (pi_zip3 (by rfl) m_zip (pa_cons (pv 1) (pa_cons (pv 2) (pa_cons (pv 0) pa_nil)))) (blkOk_by (own := [("_law_mine", 3), ("_law_its", 4), ("_law_size", 5)]) (N := ["_law_scale_here", "_law_here", "_law_there", "_law_mine", "_law_its", "_law_size"]) (sc := defScope s__law_less) (by decide +kernel)) (fun _ _ _ _ _ => (pg_tup rfl (pgs_cons (pg_name (i := 3) sc__law_less.nd rfl (by first | exact Or.inl rfl | exact Or.inr rfl)) (pgs_cons (pg_name (i := 4) sc__law_less.nd rfl (by first | exact Or.inl rfl | exact Or.inr rfl)) (pgs_cons (pg_name (i := 5) sc__law_less.nd rfl (by first | exact Or.inl rfl | exact Or.inr rfl)) pgs_nil))))) (fun _ _ _ _ _ => pts_nil) (fun _ _ _ _ _ => (pe_op op_mod (pe_op op_sub (pv 3) (pv 4)) (pv 5)))) pa_nil)))), ?r⟩)
  case len =>
    obtain ⟨B, ds, _, is, ⟨ms, a, b, rfl, _⟩, _⟩ := h
    exact is.length
  case r =>
    refine body_P h fun ds hp hl => ?_
    obtain ⟨ms, a, b, rfl, hM, ha, hb⟩ := hp
    have h3 := hM.2.1
    have h4 := ha.1
    walk_at "body"
    refine s_ret (e_cb (a_cons (e_lcZ3i (f := fun x y m => (x - y) % m) rfl rfl rfl (by decide) (by decide) (by decide) ?_)))
    walk_at "ev"
    refine ⟨a, b, ms, rfl, by omega, ?_, ?_⟩
    · intro c x y z e1 e2 e3
      have hz : 0 < z := by have := hM.2.2 z (List.mem_of_getElem? e3); omega
      walk_at "ev"
      rfl
    · walk_at "ev"
      show D.tup _ = D.tup (dints (lessF _ _ _))
      rw [uints_dints, uints_dints, uints_dints, lessF]

theorem ok__law_stood {f : Addr} {fd : FuncData} (F : Fun K "_law_stood" "_law_stood" s__law_stood f fd)
    (m_len : mg "len" = none)
    (m_range : mg "range" = none)
    (m_tuple : mg "tuple" = none) :
    FnOk P w K mg base CX0 1 f fd ["_law_scale_here", "_law_grid_here", "_law_at"] (SpP K preSto fSto) := by
  refine F.ok sc__law_stood (fun vs H Q E h => ?len) (fun cdv A outer s H vs Q E hr h => ⟨_, (pss_cons (ps_set (i := 3) sc__law_stood.nd rfl (by first | exact Or.inl rfl | exact Or.inr rfl) (pe_lst pa_nil))
      (pss_cons (ps_for PassesOwn.never rfl (pi_range1 rfl m_range (pa_cons (pe_callB (show CallR _ _ (rLenQ K) from call_len_seq) (by rfl) m_len (by decide +kernel) (pa_cons (pv 1) pa_nil)) pa_nil)) (pg_name (i := 4) sc__law_stood.nd rfl (by first | exact Or.inl rfl | exact Or.inr rfl)) (pss_one (ps_expr (pe_bm PySem.F.plainAttrs_list PySem.F.slot_list_append PySem.F.type_list_append mt_append (pv 3) (pa_cons (pe_ifExp (pt_cmpR op_lt (pv 4) (pv 2) (nomark _)) (pe_ix (show IxR _ (rIxT K) from ix_tup) (pe_ix (show IxR _ (rIxT K) from ix_tup) (pv 1) (pv 2) (fun _ _ => rfl)) (pv 4) (fun _ _ => rfl)) (pe_op (show OpR _ _ (rRepA K) from op_repA) (pe_tupC (pa_cons pe_int pa_nil)) (pe_callB (show CallR _ _ (rLenQ K) from call_len_seq) (by rfl) m_len (by decide +kernel) (pa_cons (pv 0) pa_nil)))) pa_nil)))))
      (pss_one (ps_ret (pe_tupC (pa_cons (pv 2) (pa_cons (pe_callTy (show CallR _ _ (rTupC K) from call_tupC) (by rfl) m_tuple (by decide +kernel) (pa_cons (pv 3) pa_nil)) pa_nil))))))), ?r⟩)
  case len =>
    obtain ⟨B, ds, _, is, ⟨ms, n, T, i, rfl, _⟩, _⟩ := h
    exact is.length
  case r =>
    refine body_P h fun ds hp hl => ?_
    obtain ⟨ms, n, T, i, rfl, hM, hn, hT, hi⟩ := hp
    have hTl := hT.1
    have h0 := rep_tie hM
    rw [fSto_is]
    obtain ⟨s1, s2, s3⟩ := stAt_of hM hT hi
    walk_at "body"
    refine s_seq (s_own0 (i := 3) ?_)
    walk_at "ro"
    walk_at "ev"
    refine s_forRw ?_
    walk_at "ev"
    rw [List.length_map]
    refine ⟨T.length, 0, [3, 4], fun c xs => ∃ x4, xs = [some (.own (((stAt ms T i).2.take c).map fun t => D.tup (dints t))), x4], [_, _], rfl, by omega, rfl, rfl, ⟨_, rfl⟩, fun c n1 xs hc hk hx hR => ?_, fun n1 xs hk hx hR => ?_⟩
    · obtain ⟨x4, rfl⟩ := hR
      obtain ⟨t, et⟩ := says_get (c := c) s3.len (by omega)
      have fin : ((stAt ms T i).2.take (c + 1)).map (fun t => D.tup (dints t)) = ((stAt ms T i).2.take c).map (fun t => D.tup (dints t)) ++ [D.tup (dints t)] := by
        rw [List.take_succ, et, List.map_append]; rfl
      have sa : sayAt (standP ms T) i c = t := by
        rw [sayAt, show (standP ms T).getD i (0, []) = stAt ms T i from rfl]
        exact getD_of et
      walk_at "ro"
      refine s_app (i := 3) rfl (by simp; omega) ?_
      walk_at "ev"
      by_cases e : (c : Int) < i
      · obtain ⟨r, t2, e1, e2, h3⟩ := hT.at hi (j := c) (by omega)
        rw [stand_less e1 e2] at sa
        subst sa
        have e1' : (T.map fun r => D.tup (r.map fun t => D.tup (dints t)))[i]? = some (D.tup (r.map fun t => D.tup (dints t))) := by
          rw [List.getElem?_map, e1]; rfl
        have e2' := dsays_get e2
        walk_at "yes"
        walk_at "ev"
        rw [← fin]
        exact ⟨[_, _], rfl, rfl, _, rfl⟩
      · rw [stand_more hT hi (by omega) (by omega)] at sa
        subst sa
        walk_at "no"
        walk_at "ev"
        rw [show dints (zt ms) = dints (List.replicate ms.length 0) from rfl] at fin
        rw [← fin]
        exact ⟨[_, _], rfl, rfl, _, rfl⟩
    · obtain ⟨x4, rfl⟩ := hR
      walk_at "ro"
      refine s_freeze (i := 3) rfl ?_
      walk_at "ev"
      rw [List.take_of_length_le (by rw [s3.len]; omega)]
      show D.tup [.int (i : Int), _] = D.tup [.int ((stAt ms T i).1 : Nat), _]
      rw [s2]

theorem ok_is_within {f : Addr} {fd : FuncData} (F : Fun K "is_within" "is_within" s_is_within f fd)
    {f_is_whole : Addr} {fd_is_whole : FuncData} (F_is_whole : Fun K "is_whole" "is_whole" s_is_whole f_is_whole fd_is_whole)
    (G_is_whole : FnOk P w K mg base CX0 1 f_is_whole fd_is_whole ["thing"] (SpP K preWhole fWhole))
    (g_is_whole : mg "is_whole" = some (.ref f_is_whole)) :
    FnOk P w K mg base CX0 2 f fd ["thing", "least", "most"] (SpP K preWithin fWithin) := by
  refine F.ok sc_is_within (fun vs H Q E h => ?len) (fun cdv A outer s H vs Q E hr h => ⟨_, (pss_one (ps_ret (pe_and (pe_call G_is_whole (hr.mono (by decide)) (by rfl) g_is_whole F_is_whole.kp (bi_is_whole F_is_whole) .nil pass0 (pa_cons (pv 0) pa_nil)) (pe_one (pe_chain op_le op_le (pv 1) (pv 0) (pv 2)))))), ?r⟩)
  case len =>
    obtain ⟨B, ds, _, is, ⟨d, a, b, rfl, _⟩, _⟩ := h
    exact is.length
  case r =>
    refine body_P h fun ds hp hl => ?_
    obtain ⟨d, a, b, rfl, ho⟩ := hp
    refine s_ret (e_andV (e_callP (a_cons (e_var rfl (a_nil ⟨⟨d, rfl, ho⟩, _, rfl, ?_⟩)))))
    clear hl
    cases d <;> first | (cases ho; done) | (exact rfl) | skip
    rename_i i
    refine e_chain (e_var rfl (e_var rfl ⟨_, _, rfl, rfl, ?_⟩))
    show if decide (a ≤ i) = true then _ else _
    cases e : decide (a ≤ i) with
    | false => show D.bl false = .bl (decide (a ≤ i) && decide (i ≤ b)); rw [e]; rfl
    | true =>
      refine e_var rfl ⟨_, rfl, ?_⟩
      show D.bl (decide (i ≤ b)) = .bl (decide (a ≤ i) && decide (i ≤ b))
      rw [e]; rfl

theorem ok_are_matched {f : Addr} {fd : FuncData} (F : Fun K "are_matched" "are_matched" s_are_matched f fd)
    {f_are_unlike : Addr} {fd_are_unlike : FuncData} (F_are_unlike : Fun K "are_unlike" "are_unlike" s_are_unlike f_are_unlike fd_are_unlike)
    (G_are_unlike : FnOk P w K mg base CX0 1 f_are_unlike fd_are_unlike ["things"] (SpP K preUnD fUnD))
    (g_are_unlike : mg "are_unlike" = some (.ref f_are_unlike))
    (m_list : mg "list" = none)
    (m_sorted : mg "sorted" = none) :
    FnOk P w K mg base CX0 2 f fd ["pairs"] (SpP K preMaD fMaD) := by
  refine F.ok sc_are_matched (fun vs H Q E h => ?len) (fun cdv A outer s H vs Q E hr h => ⟨_, (pss_cons (ps_if (pt_cmpR (show OpR _ _ (rNeD K) from op_neD hr.units) (pe_callTy (show CallR _ _ (rListQ K) from call_list_of) (by rfl) m_list (by decide +kernel) (pa_cons (pv 0) pa_nil)) (pe_callB (show CallR _ _ (rSortTE K) from cr_sortTE hr.u200) (by rfl) m_sorted (by decide +kernel) (pa_cons (pv 0) pa_nil)) (nomark _)) (pss_one (ps_ret pe_bl)) pss_nil)
      (pss_one (ps_ret (pe_and (pe_call G_are_unlike (hr.mono (by decide)) (by rfl) g_are_unlike F_are_unlike.kp (bi_are_unlike F_are_unlike) .nil pass0 (pa_cons (pe_lc (own := [("one", 1), ("other", 2)]) (g := gTup K 2 (gCons (gName 1) (gCons (gName 2) gNil))) (tt := tYes) rfl sc_are_matched.nd (pi_tup (pv 0)) (blkOk_by (own := [("one", 1), ("other", 2)]) (N := ["pairs", "one", "other"]) (sc := defScope s_are_matched) (by decide +kernel)) (fun _ _ _ _ _ => (pg_tup rfl (pgs_cons (pg_name (i := 1) sc_are_matched.nd rfl (by first | exact Or.inl rfl | exact Or.inr rfl)) (pgs_cons (pg_name (i := 2) sc_are_matched.nd rfl (by first | exact Or.inl rfl | exact Or.inr rfl)) pgs_nil)))) (fun _ _ _ _ _ => pts_nil) (fun _ _ _ _ _ => (pv 1))) pa_nil)) (pe_one (pe_call G_are_unlike (hr.mono (by decide)) (by rfl) g_are_unlike F_are_unlike.kp (bi_are_unlike F_are_unlike) .nil pass0 (pa_cons (pe_lc (own := [("one", 1), ("other", 2)]) (g := gTup K 2 (gCons (gName 1) (gCons (gName 2) gNil))) (tt := tYes) rfl sc_are_matched.nd (pi_tup (pv 0)) (blkOk_by (own := [("one", 1), ("other", 2)]) (N := ["pairs", "one", "other"]) (sc := defScope s_are_matched) (by decide +kernel)) (fun _ _ _ _ _ => (pg_tup rfl (pgs_cons (pg_name (i := 1) sc_are_matched.nd rfl (by first | exact Or.inl rfl | exact Or.inr rfl)) (pgs_cons (pg_name (i := 2) sc_are_matched.nd rfl (by first | exact Or.inl rfl | exact Or.inr rfl)) pgs_nil)))) (fun _ _ _ _ _ => pts_nil) (fun _ _ _ _ _ => (pv 2))) pa_nil))))))), ?r⟩)
  case len =>
    obtain ⟨B, ds, _, is, ⟨P, rfl, _⟩, _⟩ := h
    exact is.length
  case r =>
    refine body_P h fun ds hp hl => ?_
    obtain ⟨ps, rfl, hn, hal, ⟨w, hN⟩, u1, u2⟩ := hp
    rw [fMaD_is]
    have hN' : ∀ x ∈ ps.map dpr, Num 60 w x := fun x hx => by
      obtain ⟨p, hp, rfl⟩ := List.mem_map.mp hx
      exact hN p hp
    have n1 : Num 61 ((w + 1) * (ps.map dpr).length) (.lst (ps.map dpr)) := Num.lst hN'
    have n2 : Num 61 ((w + 1) * ((ps.map dpr).mergeSort leD).length) (.lst ((ps.map dpr).mergeSort leD)) := Num.lst fun x hx => hN' x (List.mem_mergeSort.mp hx)
    have m1 : (ps.map dpr).map dfst = ps.map (·.1) := by rw [List.map_map]; rfl
    have m2 : (ps.map dpr).map dsnd = ps.map (·.2) := by rw [List.map_map]; rfl
    unfold Matched
    rw [m1, m2]
    walk_at "body"
    walk_at "ev"
    refine v_sortTE ?_ hal (sortable_prs ps) (by rw [List.length_map]; omega) (fun d hd => Nat.le_trans (hN' d hd).deep (by omega)) ?_
    · have := plains_of fun x hx => (hN' x hx).plain
      rwa [D.plain] at this
    walk_at "ev"
    by_cases hs : ps.map dpr = (ps.map dpr).mergeSort leD
    · rw [← hs]
      refine v_neDs n1 (by omega) ?_
      walk_at "ev"
      refine e_lcT2f (i := 1) (j := 2) rfl rfl (by decide) ?_
      walk_at "ev"
      refine ⟨D × D, ps, fun p => p.1, fun p => p.2, fun p => p.1, rfl, by omega, fun c p _ => ?_, ?_⟩
      · walk_at "ro"
        walk_at "ev"
        rfl
      walk_at "ev"
      refine ⟨⟨_, rfl, u1⟩, ?_⟩
      rw [fUnD_is]
      walk_at "ev"
      by_cases h1 : (ps.map (·.1)).Nodup
      · rw [cB_true h1]
        walk_at "ev"
        refine e_lcT2f (i := 1) (j := 2) rfl rfl (by decide) ?_
        walk_at "ev"
        refine ⟨D × D, ps, fun p => p.1, fun p => p.2, fun p => p.2, rfl, by omega, fun c p _ => ?_, ?_⟩
        · walk_at "ro"
          walk_at "ev"
          rfl
        walk_at "ev"
        refine ⟨⟨_, rfl, u2⟩, ?_⟩
        rw [fUnD_is]
        by_cases h2 : (ps.map (·.2)).Nodup
        · rw [cB_true h2, cB_true ⟨rfl, h1, h2⟩]
        · rw [cB_false h2, cB_false fun z => h2 z.2.2]
      · rw [cB_false h1, cB_false fun z => h1 z.2.1]
        walk_at "ev"
    · refine v_neDo n1 n2 (by omega) (by omega) (fun z => hs (D.lst.inj z)) ?_
      walk_at "ev"
      rw [cB_false fun z => hs z.1]

theorem ok_standing {f : Addr} {fd : FuncData} (F : Fun K "standing" "standing" s_standing f fd)
    {f_nought : Addr} {fd_nought : FuncData} (F_nought : Fun K "nought" "nought" s_nought f_nought fd_nought)
    (G_nought : FnOk P w K mg base CX0 1 f_nought fd_nought ["measure"] (SpP K preMs1 fNou))
    (g_nought : mg "nought" = some (.ref f_nought))
    {f_Frame_stem_count : Addr} {fd_Frame_stem_count : FuncData} (F_Frame_stem_count : Fun K "stem_count" "Frame.stem_count" s_Frame_stem_count f_Frame_stem_count fd_Frame_stem_count)
    (G_Frame_stem_count : FnOk P w K mg base CX0 1 f_Frame_stem_count fd_Frame_stem_count ["self"] (SpP K (preStem cFrame) fStem))
    (k_Frame : Own2 K cFrame "measure" "hues")
    (e_Frame_stem_count : Meth K cFrame "stem_count" f_Frame_stem_count)
    (m_enumerate : mg "enumerate" = none)
    (m_tuple : mg "tuple" = none) :
    FnOk P w K mg base CX0 2 f fd ["frame", "web"] (SpP K (preStand cFrame) fStand) := by
  refine F.ok sc_standing (fun vs H Q E h => ?len) (fun cdv A outer s H vs Q E hr h => ⟨_, (pss_cons (ps_set (i := 2) sc_standing.nd rfl (by first | exact Or.inl rfl | exact Or.inr rfl) (pe_meth0 (pv 0) k_Frame.cls e_Frame_stem_count G_Frame_stem_count (hr.mono (by decide)) (bi_Frame_stem_count F_Frame_stem_count) .nil pass0))
      (pss_one (ps_ret (pe_callTy (show CallR _ _ (rTupC K) from call_tupC) (by rfl) m_tuple (by decide +kernel) (pa_cons (pe_lc (own := [("stem", 3), ("row", 4)]) (g := gTup K 2 (gCons (gName 3) (gCons (gName 4) gNil))) (tt := tYes) rfl sc_standing.nd (pi_enT (by rfl) m_enumerate (pa_cons (pv 1) pa_nil)) (blkOk_by (own := [("stem", 3), ("row", 4)]) (N := ["frame", "web", "stems", "stem", "row"]) (sc := defScope s_standing) (by decide +kernel)) (fun _ _ _ _ _ => (pg_tup rfl (pgs_cons (pg_name (i := 3) sc_standing.nd rfl (by first | exact Or.inl rfl | exact Or.inr rfl)) (pgs_cons (pg_name (i := 4) sc_standing.nd rfl (by first | exact Or.inl rfl | exact Or.inr rfl)) pgs_nil)))) (fun _ _ _ _ _ => pts_nil) (fun _ _ _ _ _ => (pe_tupC (pa_cons (pv 3) (pa_cons (pe_op (show OpR _ _ (rCatC K) from op_catC) (pv 4) (pe_op (show OpR _ _ (rRepA K) from op_repA) (pe_tupC (pa_cons (pe_call G_nought (hr.mono (by decide)) (by rfl) g_nought F_nought.kp (bi_nought F_nought) .nil pass0 (pa_cons (pe_fldK (K := K) rfl (pv 0) rfl) pa_nil)) pa_nil)) (pe_op op_sub (pv 2) (pv 3)))) pa_nil))))) pa_nil))))), ?r⟩)
  case len =>
    obtain ⟨B, ds, _, is, ⟨ms, hs, T, rfl, _⟩, _⟩ := h
    exact is.length
  case r =>
    refine body_P h fun ds hp hl => ?_
    obtain ⟨ms, hs, T, rfl, hM, hn, hT⟩ := hp
    have hl := hT.1
    rw [fStand_is]
    walk_at "body"
    walk_at "ev"
    refine e_lcEf (i := 3) (j := 4) rfl rfl (by decide) ?_
    walk_at "ev"
    refine ⟨_, T, _, fun i r => .tup [.int i, .tup ((r ++ List.replicate (T.length - i) (zt ms)).map fun t => .tup (dints t))], rfl, by omega, fun i r hr => ?_, ?_⟩
    · have h1 := (hT.2 i r hr).1
      have hi := (List.getElem?_eq_some_iff.mp hr).1
      walk_at "ev"
      refine v_repT (by omega) (by omega) (by simp) ?_
      refine v_catT (by simp; omega) ?_
      rw [List.flatten_replicate_singleton, show ((hs.length : Int) - (i : Int)).toNat = T.length - i by omega, ← List.map_replicate (f := fun t => D.tup (dints t)), ← List.map_append]
      walk_at "ev"
      rfl
    · walk_at "ev"
      rw [dlot, standP, map_mapIdx_]

theorem ok_web_tie {f : Addr} {fd : FuncData} (F : Fun K "web_tie" "web_tie" s_web_tie f fd)
    {f_nought : Addr} {fd_nought : FuncData} (F_nought : Fun K "nought" "nought" s_nought f_nought fd_nought)
    (G_nought : FnOk P w K mg base CX0 1 f_nought fd_nought ["measure"] (SpP K preMs1 fNou))
    (g_nought : mg "nought" = some (.ref f_nought))
    {f_tie_less : Addr} {fd_tie_less : FuncData} (F_tie_less : Fun K "tie_less" "tie_less" s_tie_less f_tie_less fd_tie_less)
    (G_tie_less : FnOk P w K mg base CX0 1 f_tie_less fd_tie_less ["measure", "one", "other"] (SpP K preTT fLess))
    (g_tie_less : mg "tie_less" = some (.ref f_tie_less))
    {f_table_tie : Addr} {fd_table_tie : FuncData} (F_table_tie : Fun K "table_tie" "table_tie" s_table_tie f_table_tie fd_table_tie)
    (G_table_tie : FnOk P w K mg base CX0 1 f_table_tie fd_table_tie ["table", "one", "other"] (SpP K preTab fTab))
    (g_table_tie : mg "table_tie" = some (.ref f_table_tie))
    (k_Frame : Own2 K cFrame "measure" "hues") :
    FnOk P w K mg base CX0 2 f fd ["frame", "web", "one", "other"] (SpP K (preWeb cFrame) fWeb) := by
  refine F.ok sc_web_tie (fun vs H Q E h => ?len) (fun cdv A outer s H vs Q E hr h => ⟨_, (pss_cons (ps_set (i := 4) sc_web_tie.nd rfl (by first | exact Or.inl rfl | exact Or.inr rfl) (pe_call G_table_tie (hr.mono (by decide)) (by rfl) g_table_tie F_table_tie.kp (bi_table_tie F_table_tie) .nil pass0 (pa_cons (pv 1) (pa_cons (pv 2) (pa_cons (pv 3) pa_nil)))))
      (pss_cons (ps_if (pt_cmpR op_gt (pv 2) (pv 3) (nomark _)) (pss_one (ps_ret (pv 4))) pss_nil)
      (pss_one (ps_ret (pe_call G_tie_less (hr.mono (by decide)) (by rfl) g_tie_less F_tie_less.kp (bi_tie_less F_tie_less) .nil pass0 (pa_cons (pe_fldK (K := K) rfl (pv 0) rfl) (pa_cons (pe_call G_nought (hr.mono (by decide)) (by rfl) g_nought F_nought.kp (bi_nought F_nought) .nil pass0 (pa_cons (pe_fldK (K := K) rfl (pv 0) rfl) pa_nil)) (pa_cons (pv 4) pa_nil)))))))), ?r⟩)
  case len =>
    obtain ⟨B, ds, _, is, ⟨ms, hs, t, i, j, x, rfl, _⟩, _⟩ := h
    exact is.length
  case r =>
    refine body_P h fun ds hp hl => ?_
    obtain ⟨ms, hs, t, i, j, x, rfl, hM, hi, hj, h1, hx⟩ := hp
    have e : tabAt t i j = .tup (dints x) := by
      unfold tabAt
      rw [h1]; rfl
    obtain ⟨r, h2, h3⟩ := Option.bind_eq_some_iff.mp h1
    walk_at "body"
    walk_at "ev"
    refine ⟨⟨t, i, j, r, _, rfl, hi, hj, h2, h3⟩, ?_⟩
    rw [show fTab [t, .int i, .int j] = .tup (dints x) from e]
    walk_at "ev"
    have ef : fWeb [frD cFrame ms hs, t, .int i, .int j] = webAt ms t i j := by
      show webAt (uints (dints ms)) t i j = _
      rw [uints_dints]
    rw [ef]
    unfold webAt
    rw [e]
    by_cases hc : i > j
    · rw [if_pos (decide_eq_true hc), if_pos hc]
      exact s_ret (e_var rfl rfl)
    · rw [if_neg (by rw [decide_eq_false hc]; exact Bool.false_ne_true), if_neg hc]
      have h0 := rep_tie hM
      walk_at "ev"
      show D.tup (dints (lessF _ _ _)) = D.tup (dints (negF ms (uints (dints x))))
      rw [uints_dints, negF]

theorem ok__law_of {f : Addr} {fd : FuncData} (F : Fun K "_law_of" "_law_of" s__law_of f fd)
    {f__law_take : Addr} {fd__law_take : FuncData} (F__law_take : Fun K "_law_take" "_law_take" s__law_take f__law_take fd__law_take)
    (G__law_take : FnOk P w K mg base CX0 1 f__law_take fd__law_take ["_law_hand_here", "_law_many"] (SpH K preTake psiTake))
    (g__law_take : mg "_law_take" = some (.ref f__law_take))
    (m_len : mg "len" = none) :
    FnOk P w K mg base CX0 2 f fd ["_law_hand_here", "_law_some"] (SpH K preOf psiOf) := by
  refine F.ok sc__law_of (fun vs H Q E h => ?len) (fun cdv A outer s H vs Q E hr h => ⟨_, (pss_one (ps_ret (pe_ix (show IxR _ (rIx K) from ix_seq) (pv 1) (pe_call G__law_take (hr.mono (by decide)) (by rfl) g__law_take F__law_take.kp (bi__law_take F__law_take) .nil pass0 (pa_cons (pv 0) (pa_cons (pe_callB (show CallR _ _ (rLenQ K) from call_len_seq) (by rfl) m_len (by decide +kernel) (pa_cons (pv 1) pa_nil)) pa_nil))) (fun _ _ => rfl)))), ?r⟩)
  case len =>
    obtain ⟨l, ws, B, ds, m, rfl, _, _, _, is, ⟨_, c, xs, rfl, _⟩, _⟩ := h
    show ws.length + 1 = 2
    rw [is.length]; rfl
  case r =>
    refine body_H h fun a ds m hp hl => ?_
    obtain ⟨hm, c, xs, rfl, hc, hne, hsz⟩ := hp
    refine s_ret (e_op (e_var rfl (e_callH rfl (a_cons (e_cb (a_cons (e_var rfl (a_nil (v_lenA hc (a_nil ⟨⟨hm, _, rfl, ?_, by omega⟩, ?_⟩))))))))))
    · have : xs.length ≠ 0 := fun z => hne (List.eq_nil_of_length_eq_zero z)
      omega
    · intro m2 d ht
      obtain ⟨h1, n, r, e1, rfl, h2, h3⟩ := ht
      cases e1
      have hr2 : r.toNat < xs.length := by omega
      exact v_ixA hc h2 (List.getElem?_eq_getElem hr2) ⟨h1, c, xs, rfl, hc, List.getElem_mem hr2⟩

theorem ok__law_mixed {f : Addr} {fd : FuncData} (F : Fun K "_law_mixed" "_law_mixed" s__law_mixed f fd)
    {f__law_take : Addr} {fd__law_take : FuncData} (F__law_take : Fun K "_law_take" "_law_take" s__law_take f__law_take fd__law_take)
    (G__law_take : FnOk P w K mg base CX0 1 f__law_take fd__law_take ["_law_hand_here", "_law_many"] (SpH K preTake psiTake))
    (g__law_take : mg "_law_take" = some (.ref f__law_take))
    (m_len : mg "len" = none)
    (m_list : mg "list" = none) :
    FnOk P w K mg base CX0 2 f fd ["_law_hand_here", "_law_some"] (SpF K preMix psiMix) := by
  refine F.ok sc__law_mixed (fun vs H Q E h => ?len) (fun cdv A outer s H vs Q E hr h => ⟨_, (pss_cons (ps_par (i := 2) (j := 3) rfl sc__law_mixed.nd rfl rfl (by decide) rfl rfl (pa_cons (pe_callTy (show CallR _ _ (rListQ K) from call_list_of) (by rfl) m_list (by decide +kernel) (pa_cons (pv 1) pa_nil)) (pa_cons (pe_lst pa_nil) pa_nil)) (by rfl))
      (pss_cons (ps_while PassesOwn.never (pt_cmpR (show OpR _ _ (rNeD K) from op_neD hr.units) (pv 2) (pe_lst pa_nil) (nomark _)) (pss_one (ps_expr (pe_bm PySem.F.plainAttrs_list PySem.F.slot_list_append PySem.F.type_list_append mt_append (pv 3) (pa_cons (pe_bm PySem.F.plainAttrs_list PySem.F.slot_list_pop PySem.F.type_list_pop mt_popAt (pv 2) (pa_cons (pe_call G__law_take (hr.mono (by decide)) (by rfl) g__law_take F__law_take.kp (bi__law_take F__law_take) .nil pass0 (pa_cons (pv 0) (pa_cons (pe_callB (show CallR _ _ (rLenQ K) from call_len_seq) (by rfl) m_len (by decide +kernel) (pa_cons (pv 2) pa_nil)) pa_nil))) pa_nil)) pa_nil)))))
      (pss_one (ps_ret (pv 3))))), ?r⟩)
  case len =>
    obtain ⟨a, ws, B, ds, m, rfl, _, _, _, is, ⟨_, c, xs, rfl, _⟩, _⟩ := h
    show ws.length + 1 = 2
    rw [is.length]; rfl
  case r =>
    refine body_F2 (j := 3) h fun ad ds m hp hl => ?_
    obtain ⟨hm, c, xs, rfl, hc, hx, hN⟩ := hp
    walk_at "body"
    refine s_seq (s_parOwn2 (by decide) ?_)
    walk_at "ev"
    refine ⟨xs, hc, ?_⟩
    walk_at "ro"
    refine s_while (q0 := xs.length) (I := fun q n ρ' => ∃ left found : List D, ρ' = [some .hand, some (.dat c), some (.own left), some (.own found)] ∧ (found ++ left).Perm xs ∧ left.length = q ∧ n + q ≤ m + xs.length) ⟨xs, [], rfl, .refl _, rfl, by omega⟩ ?_
    intro q n ρ' hI
    obtain ⟨left, found, rfl, hP, hq, hn⟩ := hI
    have hle : found.length + left.length = xs.length := by
      have := hP.length_eq
      simpa using this
    have hN2 : Num 21 (501 * left.length) (.lst left) := Num.lst (k := 20) (w := 500) fun x hx => hN x (hP.mem_iff.mp (List.mem_append_right _ hx))
    refine t_ownNe (i := 2) rfl hN2 (by omega) ?_
    cases left with
    | nil =>
      rw [List.isEmpty_nil, Bool.not_true, if_neg Bool.false_ne_true]
      refine ⟨found, rfl, by simp at hq; omega, c, xs, rfl, hc, ?_⟩
      rw [List.append_nil] at hP
      exact hP
    | cons y r =>
      rw [List.isEmpty_cons, Bool.not_false, if_pos rfl]
      simp only [List.length_cons] at hq hle
      refine s_popApp (i := 2) (j := 3) rfl rfl (by decide) (by omega) ?_
      refine e_callH rfl (a_cons (e_lenOwn (i := 2) rfl ?_))
      walk_at "ev"
      refine g_take (by omega) (by simp) (by simp; omega) fun m2 k q2 hk => ?_
      simp only [List.length_cons] at hk
      obtain ⟨z, hz⟩ : ∃ z, (y :: r)[k]? = some z := ⟨(y :: r)[k]'(by simp; omega), List.getElem?_eq_getElem _⟩
      refine ⟨_, rfl, k, rfl, by omega, z, hz, q - 1, by omega, _, _, rfl, ?_, ?_, by omega⟩
      · refine List.Perm.trans ?_ hP
        rw [List.append_assoc]
        exact List.Perm.append_left _ (erase_perm hz)
      · have := (erase_perm hz).length_eq
        simp only [List.length_cons] at this
        omega

theorem ok__law_knot {f : Addr} {fd : FuncData} (F : Fun K "_law_knot" "_law_knot" s__law_knot f fd)
    {f__law_take : Addr} {fd__law_take : FuncData} (F__law_take : Fun K "_law_take" "_law_take" s__law_take f__law_take fd__law_take)
    (G__law_take : FnOk P w K mg base CX0 1 f__law_take fd__law_take ["_law_hand_here", "_law_many"] (SpH K preTake psiTake))
    (g__law_take : mg "_law_take" = some (.ref f__law_take))
    (m_tuple : mg "tuple" = none) :
    FnOk P w K mg base CX0 2 f fd ["_law_hand_here", "_law_scale_here"] (SpH K preKn psiKn) := by
  refine F.ok sc__law_knot (fun vs H Q E h => ?len) (fun cdv A outer s H vs Q E hr h => ⟨_, (pss_one (ps_ret (pe_callTy (show CallR _ _ (rTupC K) from call_tupC) (by rfl) m_tuple (by decide +kernel) (pa_cons (pe_lc (own := [("_law_size", 2)]) (g := gName 2) (tt := tYes) rfl sc__law_knot.nd (pi_tup (pv 1)) (blkOk_by (own := [("_law_size", 2)]) (N := ["_law_hand_here", "_law_scale_here", "_law_size"]) (sc := defScope s__law_knot) (by decide +kernel)) (fun _ _ _ _ _ => (pg_name (i := 2) sc__law_knot.nd rfl (by first | exact Or.inl rfl | exact Or.inr rfl))) (fun _ _ _ _ _ => pts_nil) (fun _ _ _ _ _ => (pe_call G__law_take (hr.mono (by decide)) (by rfl) g__law_take F__law_take.kp (bi__law_take F__law_take) .nil pass0 (pa_cons (pv 0) (pa_cons (pv 2) pa_nil))))) pa_nil)))), ?r⟩)
  case len =>
    obtain ⟨l, ws, B, ds, m, rfl, _, _, _, is, ⟨_, ms, rfl, _⟩, _⟩ := h
    show ws.length + 1 = 2
    rw [is.length]; rfl
  case r =>
    refine body_H h fun a ds m hp hl => ?_
    obtain ⟨hm, ms, rfl, hM⟩ := hp
    have h3 := hM.2.1
    walk_at "body"
    refine s_ret (e_cb (a_cons (e_lcT rfl (e_var rfl ⟨_, rfl, by rw [dints_length]; omega, fun i n acc => n ≤ m + i ∧ ∃ t : List Int, acc = dints t ∧ t.length = i ∧ ∀ (c : Nat) (z x : Int), ms[c]? = some z → t[c]? = some x → 0 ≤ x ∧ x < z, ⟨by omega, [], rfl, rfl, fun c z x _ e => by simp at e⟩, ?_, ?_⟩))))
    · intro i n acc d hd hI hal
      obtain ⟨hn, t, rfl, ht, hb⟩ := hI
      obtain ⟨z, ez, rfl⟩ := dints_get hd
      have hz := hM.2.2 z (List.mem_of_getElem? ez)
      have hi : i < ms.length := (List.getElem?_eq_some_iff.mp ez).1
      walk_at "ev"
      refine ⟨⟨by omega, z, rfl, by omega, by omega⟩, fun m2 d2 q => ?_⟩
      obtain ⟨q1, n', r, e, rfl, q2, q3⟩ := q
      cases e
      refine ⟨by omega, t ++ [r], by rw [dints_snoc], by simp [ht], fun c z' x e1 e2 => ?_⟩
      by_cases hc : c < t.length
      · rw [List.getElem?_append_left hc] at e2
        exact hb c z' x e1 e2
      · have hc2 : c = t.length := by
          have := (List.getElem?_eq_some_iff.mp e2).1
          simp at this
          omega
        subst hc2
        rw [List.getElem?_append_right (Nat.le_refl _)] at e2
        simp at e2
        subst e2
        rw [ht, ez] at e1
        cases e1
        exact ⟨q2, q3⟩
    · intro n acc _ hI
      obtain ⟨hn, t, rfl, ht, hb⟩ := hI
      rw [dints_length] at hn ht
      walk_at "ev"
      exact ⟨by omega, ms, t, rfl, ⟨ht, hb⟩, rfl⟩

theorem ok__law_tie {f : Addr} {fd : FuncData} (F : Fun K "_law_tie" "_law_tie" s__law_tie f fd)
    {f__law_less : Addr} {fd__law_less : FuncData} (F__law_less : Fun K "_law_less" "_law_less" s__law_less f__law_less fd__law_less)
    (G__law_less : FnOk P w K mg base CX0 1 f__law_less fd__law_less ["_law_scale_here", "_law_here", "_law_there"] (SpP K preTT fLess))
    (g__law_less : mg "_law_less" = some (.ref f__law_less)) :
    FnOk P w K mg base CX0 2 f fd ["_law_scale_here", "_law_here", "_law_there"] (SpP K preLt fLt) := by
  refine F.ok sc__law_tie (fun vs H Q E h => ?len) (fun cdv A outer s H vs Q E hr h => ⟨_, (pss_one (ps_ret (pe_call G__law_less (hr.mono (by decide)) (by rfl) g__law_less F__law_less.kp (bi__law_less F__law_less) .nil pass0 (pa_cons (pv 0) (pa_cons (pe_ix (show IxR _ (rIxT K) from ix_tup) (pe_ix (show IxR _ (rIxT K) from ix_tup) (pv 1) pe_int (fun _ _ => rfl)) (pe_ix (show IxR _ (rIxT K) from ix_tup) (pv 2) pe_int (fun _ _ => rfl)) (fun _ _ => rfl)) (pa_cons (pe_ix (show IxR _ (rIxT K) from ix_tup) (pe_ix (show IxR _ (rIxT K) from ix_tup) (pv 2) pe_int (fun _ _ => rfl)) (pe_ix (show IxR _ (rIxT K) from ix_tup) (pv 1) pe_int (fun _ _ => rfl)) (fun _ _ => rfl)) pa_nil)))))), ?r⟩)
  case len =>
    obtain ⟨B, ds, _, is, ⟨ms, n, a, b, S, U, rfl, _⟩, _⟩ := h
    exact is.length
  case r =>
    refine body_P h fun ds hp hl => ?_
    obtain ⟨ms, n, a, b, S, U, rfl, hM, ha, hb, hS, hU, tS, tU⟩ := hp
    obtain ⟨x, ex⟩ := says_get hS hb
    obtain ⟨y, ey⟩ := says_get hU ha
    have ex' := dsays_get ex
    have ey' := dsays_get ey
    have hx := tS x (List.mem_of_getElem? ex)
    have hy := tU y (List.mem_of_getElem? ey)
    rw [fLt_is, getD_of ex, getD_of ey]
    walk_at "body"
    walk_at "ev"

theorem ok__law_from {f : Addr} {fd : FuncData} (F : Fun K "_law_from" "_law_from" s__law_from f fd)
    {f__law_less : Addr} {fd__law_less : FuncData} (F__law_less : Fun K "_law_less" "_law_less" s__law_less f__law_less fd__law_less)
    (G__law_less : FnOk P w K mg base CX0 1 f__law_less fd__law_less ["_law_scale_here", "_law_here", "_law_there"] (SpP K preTT fLess))
    (g__law_less : mg "_law_less" = some (.ref f__law_less))
    (m_len : mg "len" = none) :
    FnOk P w K mg base CX0 2 f fd ["_law_scale_here", "_law_grid_here", "_law_at", "_law_to"] (SpP K preFm fFm) := by
  refine F.ok sc__law_from (fun vs H Q E h => ?len) (fun cdv A outer s H vs Q E hr h => ⟨_, (pss_cons (ps_if (pt_cmpR op_lt (pv 3) (pv 2) (nomark _)) (pss_one (ps_ret (pe_ix (show IxR _ (rIxT K) from ix_tup) (pe_ix (show IxR _ (rIxT K) from ix_tup) (pv 1) (pv 2) (fun _ _ => rfl)) (pv 3) (fun _ _ => rfl)))) pss_nil)
      (pss_one (ps_ret (pe_call G__law_less (hr.mono (by decide)) (by rfl) g__law_less F__law_less.kp (bi__law_less F__law_less) .nil pass0 (pa_cons (pv 0) (pa_cons (pe_op (show OpR _ _ (rRepA K) from op_repA) (pe_tupC (pa_cons pe_int pa_nil)) (pe_callB (show CallR _ _ (rLenQ K) from call_len_seq) (by rfl) m_len (by decide +kernel) (pa_cons (pv 0) pa_nil))) (pa_cons (pe_ix (show IxR _ (rIxT K) from ix_tup) (pe_ix (show IxR _ (rIxT K) from ix_tup) (pv 1) (pv 3) (fun _ _ => rfl)) (pv 2) (fun _ _ => rfl)) pa_nil))))))), ?r⟩)
  case len =>
    obtain ⟨B, ds, _, is, ⟨ms, n, T, i, j, rfl, _⟩, _⟩ := h
    exact is.length
  case r =>
    refine body_P h fun ds hp hl => ?_
    obtain ⟨ms, n, T, i, j, rfl, hM, hT, hi, hj, hij⟩ := hp
    have h0 := rep_tie hM
    rw [fFm_is, webT]
    walk_at "body"
    walk_at "ev"
    by_cases e : (j : Int) < i
    · obtain ⟨r, t, e1, e2, h3⟩ := hT.at hi (j := j) (by omega)
      have e1' : (T.map fun r => D.tup (r.map fun t => D.tup (dints t)))[i]? = some (D.tup (r.map fun t => D.tup (dints t))) := by
        rw [List.getElem?_map, e1]; rfl
      have e2' := dsays_get e2
      walk_at "yes"
      rw [if_pos (by omega), tt_of e1 e2]
      walk_at "ev"
      rfl
    · obtain ⟨r, t, e1, e2, h3⟩ := hT.at hj (j := i) (by omega)
      have e1' : (T.map fun r => D.tup (r.map fun t => D.tup (dints t)))[j]? = some (D.tup (r.map fun t => D.tup (dints t))) := by
        rw [List.getElem?_map, e1]; rfl
      have e2' := dsays_get e2
      walk_at "no"
      rw [if_neg (by omega), tt_of e1 e2]
      walk_at "ev"
      rfl

theorem ok_is_below {f : Addr} {fd : FuncData} (F : Fun K "is_below" "is_below" s_is_below f fd)
    {f_is_within : Addr} {fd_is_within : FuncData} (F_is_within : Fun K "is_within" "is_within" s_is_within f_is_within fd_is_within)
    (G_is_within : FnOk P w K mg base CX0 2 f_is_within fd_is_within ["thing", "least", "most"] (SpP K preWithin fWithin))
    (g_is_within : mg "is_within" = some (.ref f_is_within)) :
    FnOk P w K mg base CX0 3 f fd ["thing", "limit"] (SpP K preBelow fBelow) := by
  refine F.ok sc_is_below (fun vs H Q E h => ?len) (fun cdv A outer s H vs Q E hr h => ⟨_, (pss_one (ps_ret (pe_call G_is_within (hr.mono (by decide)) (by rfl) g_is_within F_is_within.kp (bi_is_within F_is_within) .nil pass0 (pa_cons (pv 0) (pa_cons pe_int (pa_cons (pe_op op_sub (pv 1) pe_int) pa_nil)))))), ?r⟩)
  case len =>
    obtain ⟨B, ds, _, is, ⟨d, n, rfl, _⟩, _⟩ := h
    exact is.length
  case r =>
    refine body_P h fun ds hp hl => ?_
    obtain ⟨d, n, rfl, ho⟩ := hp
    walk_at "body"
    walk_at "ev"
    exact ⟨⟨_, _, _, rfl, ho⟩, rfl⟩

theorem ok_is_measure {f : Addr} {fd : FuncData} (F : Fun K "is_measure" "is_measure" s_is_measure f fd)
    {f_is_within : Addr} {fd_is_within : FuncData} (F_is_within : Fun K "is_within" "is_within" s_is_within f_is_within fd_is_within)
    (G_is_within : FnOk P w K mg base CX0 2 f_is_within fd_is_within ["thing", "least", "most"] (SpP K preWithin fWithin))
    (g_is_within : mg "is_within" = some (.ref f_is_within))
    {f_product : Addr} {fd_product : FuncData} (F_product : Fun K "product" "product" s_product f_product fd_product)
    (G_product : FnOk P w K mg base CX0 1 f_product fd_product ["numbers"] (SpP K preProd fProd))
    (g_product : mg "product" = some (.ref f_product))
    {t_LEAST_NUMBER : Tok} (c_LEAST_NUMBER : mg "LEAST_NUMBER" = some (.int 2 t_LEAST_NUMBER))
    {t_MOST_NUMBER : Tok} (c_MOST_NUMBER : mg "MOST_NUMBER" = some (.int 5 t_MOST_NUMBER))
    {t_MOST_NUMBERS : Tok} (c_MOST_NUMBERS : mg "MOST_NUMBERS" = some (.int 3 t_MOST_NUMBERS))
    {t_MOST_TIES : Tok} (c_MOST_TIES : mg "MOST_TIES" = some (.int 30 t_MOST_TIES))
    (m_all : mg "all" = none)
    (m_isinstance : mg "isinstance" = none)
    (m_len : mg "len" = none)
    (m_tuple : mg "tuple" = none) :
    FnOk P w K mg base CX0 3 f fd ["thing"] (SpP K preMeas fMeas) := by
  refine F.ok sc_is_measure (fun vs H Q E h => ?len) (fun cdv A outer s H vs Q E hr h => ⟨_, (pss_cons (ps_if (PW.pt (pw_or (pt_not (pt_val (pe_callB (show CallR _ _ (rIsi K) from call_isi) (by rfl) m_isinstance (by decide +kernel) (pa_cons (pv 0) (pa_cons (pe_bltn (v := .ty "tuple") (by rfl) m_tuple (by decide +kernel) rfl) pa_nil))))) (pw_or1 (pt_not (pt_val (pe_call G_is_within (hr.mono (by decide)) (by rfl) g_is_within F_is_within.kp (bi_is_within F_is_within) .nil pass0 (pa_cons (pe_callB (show CallR _ _ (rLenQ K) from call_len_seq) (by rfl) m_len (by decide +kernel) (pa_cons (pv 0) pa_nil)) (pa_cons pe_int (pa_cons (pe_glob (v := .int 3) (by rfl) c_MOST_NUMBERS ⟨_, rfl⟩) pa_nil))))))))) (pss_one (ps_ret pe_bl)) pss_nil)
      (pss_cons (ps_if (pt_not (pt_val (pe_callB (show CallR _ _ (rAll K) from cr_all rfl) (by rfl) m_all (by decide +kernel) (pa_cons (pe_lc (own := [("number", 1)]) (g := gName 1) (tt := tYes) rfl sc_is_measure.nd (pi_tup (pv 0)) (blkOk_by (own := [("number", 1)]) (N := ["thing", "number"]) (sc := defScope s_is_measure) (by decide +kernel)) (fun _ _ _ _ _ => (pg_name (i := 1) sc_is_measure.nd rfl (by first | exact Or.inl rfl | exact Or.inr rfl))) (fun _ _ _ _ _ => pts_nil) (fun _ _ _ _ _ => (pe_call G_is_within (hr.mono (by decide)) (by rfl) g_is_within F_is_within.kp (bi_is_within F_is_within) .nil pass0 (pa_cons (pv 1) (pa_cons (pe_glob (v := .int 2) (by rfl) c_LEAST_NUMBER ⟨_, rfl⟩) (pa_cons (pe_glob (v := .int 5) (by rfl) c_MOST_NUMBER ⟨_, rfl⟩) pa_nil)))))) pa_nil)))) (pss_one (ps_ret pe_bl)) pss_nil)
      (pss_one (ps_ret (pe_cmpR op_le (pe_call G_product (hr.mono (by decide)) (by rfl) g_product F_product.kp (bi_product F_product) .nil pass0 (pa_cons (pv 0) pa_nil)) (pe_glob (v := .int 30) (by rfl) c_MOST_TIES ⟨_, rfl⟩) (nomark _)))))), ?r⟩)
  case len =>
    obtain ⟨B, ds, _, is, ⟨d, rfl, _⟩, _⟩ := h
    exact is.length
  case r =>
    refine body_P h fun ds hp hl => ?_
    obtain ⟨d, rfl, hpl⟩ := hp
    have ho : d.own = false := plain_own hpl
    refine s_seq (s_if (t_or (t_not (t_B (e_isi kit_tup (e_var rfl ⟨ho, _, rfl, ?_⟩))))))
    cases d with
    | tup xs =>
      refine t_not (t_B (e_callP (a_cons (e_cb (a_cons (e_var rfl (a_nil (v_lenT (a_cons (e_int (a_cons (e_int (a_nil ⟨⟨_, _, _, rfl, rfl⟩, _, rfl, ?_⟩)))))))))))))
      cases e : D.within 1 3 (.int xs.length) with
      | false =>
        refine s_ret (e_bl ?_)
        show D.bl false = .bl (D.meas (.tup xs))
        rw [D.meas, show (decide (1 ≤ xs.length) && decide (xs.length ≤ 3)) = false from within_len e]
        rfl
      | true =>
        refine s_next ?_
        have e3 : (decide (1 ≤ xs.length) && decide (xs.length ≤ 3)) = true := within_len e
        have hlen : xs.length ≤ 3 := by
          rw [Bool.and_eq_true, decide_eq_true_eq, decide_eq_true_eq] at e3
          exact e3.2
        have hpx : ∀ x ∈ xs, x.own = false := fun x hx => plain_own (plains_mem (by simpa [D.plain] using hpl) hx)
        refine s_seq (s_if (t_not (t_B (e_cb (a_cons (e_lcT rfl (e_var rfl ⟨xs, rfl, by omega, fun i _ acc => acc = ((xs.take i).map (D.within 2 5)).map D.bl, rfl, ?_, ?_⟩)))))))
        · intro i n acc d hd hI _
          refine e_callP (a_cons (e_var rfl (a_cons (e_int (a_cons (e_int (a_nil ⟨⟨_, _, _, rfl, hpx d (List.mem_of_getElem? hd)⟩, ?_⟩)))))))
          subst hI
          rw [List.take_add_one, hd]
          simp [fWithin]
        · intro n acc _ hI
          subst hI
          rw [List.take_length]
          refine a_nil (v_all ⟨_, rfl, ?_⟩)
          have ea : ((xs.map (D.within 2 5)).all id) = xs.all (D.within 2 5) := by
            rw [List.all_map]; rfl
          rw [ea]
          cases e2 : xs.all (D.within 2 5) with
          | false =>
            refine s_ret (e_bl ?_)
            show D.bl false = .bl (D.meas (.tup xs))
            rw [D.meas, e2, e3]; rfl
          | true =>
            refine s_next (s_ret (e_op (e_callP (a_cons (e_var rfl (a_nil ⟨prod_pre e2, e_int (v_B0 ?_)⟩))))))
            show D.bl (decide (D.prod xs ≤ 30)) = .bl (D.meas (.tup xs))
            rw [D.meas, e2, e3]; rfl
    | _ => exact s_ret (e_bl rfl)

theorem ok_keeps_ties {f : Addr} {fd : FuncData} (F : Fun K "keeps_ties" "keeps_ties" s_keeps_ties f fd)
    {f_web_tie : Addr} {fd_web_tie : FuncData} (F_web_tie : Fun K "web_tie" "web_tie" s_web_tie f_web_tie fd_web_tie)
    (G_web_tie : FnOk P w K mg base CX0 2 f_web_tie fd_web_tie ["frame", "web", "one", "other"] (SpP K (preWeb cFrame) fWeb))
    (g_web_tie : mg "web_tie" = some (.ref f_web_tie))
    (m_all : mg "all" = none) :
    FnOk P w K mg base CX0 3 f fd ["frame", "web", "other", "pairs"] (SpP K (preKt cFrame) fKt) := by
  refine F.ok sc_keeps_ties (fun vs H Q E h => ?len) (fun cdv A outer s H vs Q E hr h => ⟨_, (pss_one (ps_ret (pe_callB (show CallR _ _ (rAll K) from cr_all rfl) (by rfl) m_all (by decide +kernel) (pa_cons (pe_lc2 (own := [("start", 4), ("like_start", 5), ("end", 6), ("like_end", 7)]) (vs1 := [6, 7]) (g := gTup K 2 (gCons (gName 4) (gCons (gName 5) gNil))) (tt := tYes) (g1 := gTup K 2 (gCons (gName 6) (gCons (gName 7) gNil))) rfl sc_keeps_ties.nd (pi_tup (pv 3)) (blkOk_by (own := [("start", 4), ("like_start", 5), ("end", 6), ("like_end", 7)]) (N := ["frame", "web", "other", "pairs", "start", "like_start", "end", "like_end"]) (sc := defScope s_keeps_ties) (by decide +kernel)) (by decide) (fun _ _ _ _ _ => (pg_tup rfl (pgs_cons (pg_name (i := 4) sc_keeps_ties.nd rfl (by first | exact Or.inl rfl | exact Or.inr rfl)) (pgs_cons (pg_name (i := 5) sc_keeps_ties.nd rfl (by first | exact Or.inl rfl | exact Or.inr rfl)) pgs_nil)))) (fun _ _ _ _ _ => pts_nil) (fun _ _ _ _ _ => (show PI _ _ _ (iTup K _) from pi_tup (pv 3))) (fun _ _ _ _ _ => (pg_tup rfl (pgs_cons (pg_name (i := 6) sc_keeps_ties.nd rfl (by first | exact Or.inl rfl | exact Or.inr rfl)) (pgs_cons (pg_name (i := 7) sc_keeps_ties.nd rfl (by first | exact Or.inl rfl | exact Or.inr rfl)) pgs_nil)))) (fun _ _ _ _ _ => (pts_one (pt_cmpR op_ne (pv 4) (pv 6) (nomark _)))) (fun _ _ _ _ _ => (pe_cmpR (show OpR _ _ (rEqD K) from op_eqD hr.units) (pe_call G_web_tie (hr.mono (by decide)) (by rfl) g_web_tie F_web_tie.kp (bi_web_tie F_web_tie) .nil pass0 (pa_cons (pv 0) (pa_cons (pv 1) (pa_cons (pv 4) (pa_cons (pv 6) pa_nil))))) (pe_call G_web_tie (hr.mono (by decide)) (by rfl) g_web_tie F_web_tie.kp (bi_web_tie F_web_tie) .nil pass0 (pa_cons (pv 0) (pa_cons (pv 2) (pa_cons (pv 5) (pa_cons (pv 7) pa_nil))))) (nomark _)))) pa_nil)))), ?r⟩)
  case len =>
    obtain ⟨B, ds, _, is, ⟨ms, hs, T, U, P, rfl, _⟩, _⟩ := h
    exact is.length
  case r =>
    refine body_P h fun ds hp hl => ?_
    obtain ⟨ms, hs, T, U, P, rfl, hM, hn, hT, hU, hP, hm⟩ := hp
    have hPl := mat_len hP hm
    rw [fKt_is]
    walk_at "body"
    walk_at "ev"
    refine e_lcTT2 (i := 4) (j := 5) (p := 6) (q := 7) rfl rfl rfl rfl (by decide) (by decide) (by decide) (by decide) (by decide) (by decide) ?_
    walk_at "ev"
    refine ⟨fun c n acc => n = 0 ∧ ∃ bs : List Bool, acc = bs.map D.bl ∧ bs.length ≤ 16 * c ∧ (bs.all id = true ↔ Upto P c fun p => ∀ q ∈ P, p.1 ≠ q.1 → webT ms T p.1 q.1 = webT ms U p.2 q.2), ⟨rfl, [], rfl, by simp, by rw [upto_zero]; simp⟩, fun c n acc d hd hI => ?_, fun n acc hI => ?_⟩
    · obtain ⟨rfl, bs, rfl, hbl, hb⟩ := hI
      obtain ⟨p, hp, rfl⟩ := map_get hd
      have hcl := (List.getElem?_eq_some_iff.mp hp).1
      have hp2 := List.mem_of_getElem? hp
      refine ⟨_, _, rfl, ?_⟩
      walk_at "ro"
      walk_at "ev"
      refine ⟨fun t n acc => n = 0 ∧ ∃ cs : List Bool, acc = cs.map D.bl ∧ cs.length ≤ 16 * c + t ∧ (cs.all id = true ↔ bs.all id = true ∧ Upto P t fun q => p.1 ≠ q.1 → webT ms T p.1 q.1 = webT ms U p.2 q.2), ⟨rfl, bs, rfl, by omega, by rw [upto_zero]; simp⟩, fun t n acc e he hJ => ?_, fun n acc hJ => ?_⟩
      · obtain ⟨rfl, cs, rfl, hcs, hc⟩ := hJ
        obtain ⟨q, hq, rfl⟩ := map_get he
        have htl := (List.getElem?_eq_some_iff.mp hq).1
        have hq2 := List.mem_of_getElem? hq
        refine ⟨by rw [List.length_map]; omega, _, _, rfl, ?_⟩
        walk_at "ro"
        walk_at "ev"
        by_cases hne : p.1 = q.1
        · rw [if_neg (by simp [hne])]
          refine ⟨rfl, cs, rfl, by omega, ?_⟩
          rw [hc, upto_succ hq]
          exact ⟨fun z => ⟨z.1, z.2, fun w => absurd hne w⟩, fun z => ⟨z.1, z.2.1⟩⟩
        · rw [if_pos (by simp; omega)]
          have hpP := hP p hp2
          have hqP := hP q hq2
          have hne2 := mat_ne hm hp2 hq2 hne
          walk_at "ev"
          refine ⟨pWeb hM hT hpP.1 hqP.1 hne, ?_⟩
          rw [fWeb_is hT hpP.1 hqP.1 hne]
          walk_at "ev"
          refine ⟨pWeb hM hU hpP.2 hqP.2 hne2, ?_⟩
          rw [fWeb_is hU hpP.2 hqP.2 hne2]
          have w1 := webT_tie hM hT hpP.1 hqP.1 hne
          have w2 := webT_tie hM hU hpP.2 hqP.2 hne2
          have fin : ∀ b : Bool, (b = true ↔ webT ms T p.1 q.1 = webT ms U p.2 q.2) → 0 = 0 ∧ ∃ cs' : List Bool, cs.map D.bl ++ [D.bl b] = cs'.map D.bl ∧ cs'.length ≤ 16 * c + (t + 1) ∧ (cs'.all id = true ↔ bs.all id = true ∧ Upto P (t + 1) fun q => p.1 ≠ q.1 → webT ms T p.1 q.1 = webT ms U p.2 q.2) := fun b hb2 => by
            refine ⟨rfl, cs ++ [b], by rw [List.map_append]; rfl, by simp; omega, ?_⟩
            rw [all_snoc, hc, upto_succ hq, hb2]
            exact ⟨fun z => ⟨z.1.1, z.1.2, fun _ => z.2⟩, fun z => ⟨⟨z.1, z.2.1⟩, z.2.2 hne⟩⟩
          walk_at "ev"
          by_cases hw : webT ms T p.1 q.1 = webT ms U p.2 q.2
          · rw [hw]
            refine v_eqDs (w2.num hM) (by omega) (fin true ?_)
            simp [hw]
          · refine v_eqDo (w1.num hM) (w2.num hM) (by omega) (by omega) (fun z => hw (tup_inj z)) (fin false ?_)
            simp [hw]
      · obtain ⟨rfl, cs, rfl, hcs, hc⟩ := hJ
        rw [List.length_map] at hcs hc
        refine ⟨rfl, cs, rfl, by omega, ?_⟩
        rw [hc, hb, upto_succ hp, upto_all]
    · obtain ⟨rfl, bs, rfl, hbl, hb⟩ := hI
      rw [List.length_map, upto_all] at hb
      walk_at "ev"
      refine v_all ?_
      rw [cB_eq (p := Tis ms T U P) hb]

theorem ok_part_of {f : Addr} {fd : FuncData} (F : Fun K "part_of" "part_of" s_part_of f fd)
    {f_standing : Addr} {fd_standing : FuncData} (F_standing : Fun K "standing" "standing" s_standing f_standing fd_standing)
    (G_standing : FnOk P w K mg base CX0 2 f_standing fd_standing ["frame", "web"] (SpP K (preStand cFrame) fStand))
    (g_standing : mg "standing" = some (.ref f_standing))
    (m_tuple : mg "tuple" = none) :
    FnOk P w K mg base CX0 3 f fd ["frame", "web", "other", "likeness"] (SpP K (prePo cFrame) fPo) := by
  refine F.ok sc_part_of (fun vs H Q E h => ?len) (fun cdv A outer s H vs Q E hr h => ⟨_, (pss_cons (ps_set (i := 4) sc_part_of.nd rfl (by first | exact Or.inl rfl | exact Or.inr rfl) (pe_call G_standing (hr.mono (by decide)) (by rfl) g_standing F_standing.kp (bi_standing F_standing) .nil pass0 (pa_cons (pv 0) (pa_cons (pv 1) pa_nil))))
      (pss_cons (ps_set (i := 5) sc_part_of.nd rfl (by first | exact Or.inl rfl | exact Or.inr rfl) (pe_call G_standing (hr.mono (by decide)) (by rfl) g_standing F_standing.kp (bi_standing F_standing) .nil pass0 (pa_cons (pv 0) (pa_cons (pv 2) pa_nil))))
      (pss_one (ps_ret (pe_callTy (show CallR _ _ (rTupC K) from call_tupC) (by rfl) m_tuple (by decide +kernel) (pa_cons (pe_lc (own := [("one", 6), ("like", 7)]) (g := gTup K 2 (gCons (gName 6) (gCons (gName 7) gNil))) (tt := tYes) rfl sc_part_of.nd (pi_tup (pv 3)) (blkOk_by (own := [("one", 6), ("like", 7)]) (N := ["frame", "web", "other", "likeness", "ahead", "behind", "one", "like"]) (sc := defScope s_part_of) (by decide +kernel)) (fun _ _ _ _ _ => (pg_tup rfl (pgs_cons (pg_name (i := 6) sc_part_of.nd rfl (by first | exact Or.inl rfl | exact Or.inr rfl)) (pgs_cons (pg_name (i := 7) sc_part_of.nd rfl (by first | exact Or.inl rfl | exact Or.inr rfl)) pgs_nil)))) (fun _ _ _ _ _ => pts_nil) (fun _ _ _ _ _ => (pe_tupC (pa_cons (pe_ix (show IxR _ (rIxT K) from ix_tup) (pv 4) (pv 6) (fun _ _ => rfl)) (pa_cons (pe_ix (show IxR _ (rIxT K) from ix_tup) (pv 5) (pv 7) (fun _ _ => rfl)) pa_nil))))) pa_nil)))))), ?r⟩)
  case len =>
    obtain ⟨B, ds, _, is, ⟨ms, hs, T, U, P, rfl, _⟩, _⟩ := h
    exact is.length
  case r =>
    refine body_P h fun ds hp hl => ?_
    obtain ⟨ms, hs, T, U, P, rfl, hM, hn, hT, hU, hP, hPl⟩ := hp
    rw [fPo_is]
    walk_at "body"
    walk_at "ev"
    refine ⟨⟨ms, hs, T, rfl, hM, hn, hT⟩, ?_⟩
    rw [show fStand [D.ins cFrame [Str.ofString "measure", Str.ofString "hues"] [D.tup (dints ms), D.tup (dints hs)], dtab T] = dlot (standP ms T) from fStand_is cFrame ms hs T]
    walk_at "ev"
    refine ⟨⟨ms, hs, U, rfl, hM, hn, hU⟩, ?_⟩
    rw [show fStand [D.ins cFrame [Str.ofString "measure", Str.ofString "hues"] [D.tup (dints ms), D.tup (dints hs)], dtab U] = dlot (standP ms U) from fStand_is cFrame ms hs U]
    walk_at "ev"
    refine e_lcT2f (i := 6) (j := 7) rfl rfl (by decide) ?_
    walk_at "ev"
    refine ⟨Nat × Nat, P, fun p => .int p.1, fun p => .int p.2, fun p => drow (stAt ms T p.1, stAt ms U p.2), rfl, by omega, fun c p hc => ?_, ?_⟩
    · have hp := hP p (List.mem_of_getElem? hc)
      have e1 : ((standP ms T).map dspot)[p.1]? = some (dspot (stAt ms T p.1)) := by
        rw [List.getElem?_map, (stAt_of hM hT hp.1).1]; rfl
      have e2 : ((standP ms U).map dspot)[p.2]? = some (dspot (stAt ms U p.2)) := by
        rw [List.getElem?_map, (stAt_of hM hU hp.2).1]; rfl
      walk_at "ro"
      walk_at "ev"
      rfl
    walk_at "ev"
    show _ = D.tup ((poF ms T U P).map drow)
    rw [poF, List.map_map]
    rfl

theorem ok_is_hue {f : Addr} {fd : FuncData} (F : Fun K "is_hue" "is_hue" s_is_hue f fd)
    {f_is_within : Addr} {fd_is_within : FuncData} (F_is_within : Fun K "is_within" "is_within" s_is_within f_is_within fd_is_within)
    (G_is_within : FnOk P w K mg base CX0 2 f_is_within fd_is_within ["thing", "least", "most"] (SpP K preWithin fWithin))
    (g_is_within : mg "is_within" = some (.ref f_is_within))
    {t_MOST_HUE : Tok} (c_MOST_HUE : mg "MOST_HUE" = some (.int 9 t_MOST_HUE)) :
    FnOk P w K mg base CX0 3 f fd ["thing"] (SpP K preWhole fHue) := by
  refine F.ok sc_is_hue (fun vs H Q E h => ?len) (fun cdv A outer s H vs Q E hr h => ⟨_, (pss_one (ps_ret (pe_call G_is_within (hr.mono (by decide)) (by rfl) g_is_within F_is_within.kp (bi_is_within F_is_within) .nil pass0 (pa_cons (pv 0) (pa_cons pe_int (pa_cons (pe_glob (v := .int 9) (by rfl) c_MOST_HUE ⟨_, rfl⟩) pa_nil)))))), ?r⟩)
  case len =>
    obtain ⟨B, ds, _, is, ⟨d, rfl, _⟩, _⟩ := h
    exact is.length
  case r =>
    refine body_P h fun ds hp hl => ?_
    obtain ⟨d, rfl, ho⟩ := hp
    walk_at "body"
    walk_at "ev"
    exact ⟨⟨_, _, _, rfl, ho⟩, rfl⟩

theorem ok__law_scale {f : Addr} {fd : FuncData} (F : Fun K "_law_scale" "_law_scale" s__law_scale f fd)
    {f__law_of : Addr} {fd__law_of : FuncData} (F__law_of : Fun K "_law_of" "_law_of" s__law_of f__law_of fd__law_of)
    (G__law_of : FnOk P w K mg base CX0 2 f__law_of fd__law_of ["_law_hand_here", "_law_some"] (SpH K preOf psiOf))
    (g__law_of : mg "_law_of" = some (.ref f__law_of)) :
    FnOk P w K mg base CX0 3 f fd ["_law_hand_here"] (SpH K preSc psiSc) := by
  refine F.ok sc__law_scale (fun vs H Q E h => ?len) (fun cdv A outer s H vs Q E hr h => ⟨_, (pss_cons (ps_set (i := 1) sc__law_scale.nd rfl (by first | exact Or.inl rfl | exact Or.inr rfl) (pe_lst (pa_cons (pe_tupC (pa_cons pe_int pa_nil)) (pa_cons (pe_tupC (pa_cons pe_int (pa_cons pe_int pa_nil))) (pa_cons (pe_tupC (pa_cons pe_int pa_nil)) (pa_cons (pe_tupC (pa_cons pe_int pa_nil)) (pa_cons (pe_tupC (pa_cons pe_int pa_nil)) (pa_cons (pe_tupC (pa_cons pe_int (pa_cons pe_int pa_nil))) (pa_cons (pe_tupC (pa_cons pe_int (pa_cons pe_int (pa_cons pe_int pa_nil)))) (pa_cons (pe_tupC (pa_cons pe_int (pa_cons pe_int pa_nil))) (pa_cons (pe_tupC (pa_cons pe_int (pa_cons pe_int pa_nil))) (pa_cons (pe_tupC (pa_cons pe_int (pa_cons pe_int (pa_cons pe_int pa_nil)))) (pa_cons (pe_tupC (pa_cons pe_int (pa_cons pe_int pa_nil))) (pa_cons (pe_tupC (pa_cons pe_int (pa_cons pe_int pa_nil))) pa_nil))))))))))))))
      (pss_one (ps_ret (pe_call G__law_of (hr.mono (by decide)) (by rfl) g__law_of F__law_of.kp (bi__law_of F__law_of) .nil pass0 (pa_cons (pv 0) (pa_cons (pe_op op_cat (pv 1) (pe_lst (pa_cons (pe_tupC (pa_cons pe_int (pa_cons pe_int (pa_cons pe_int pa_nil)))) (pa_cons (pe_tupC (pa_cons pe_int (pa_cons pe_int (pa_cons pe_int pa_nil)))) pa_nil)))) pa_nil)))))), ?r⟩)
  case len =>
    obtain ⟨l, ws, B, ds, m, rfl, _, _, _, is, ⟨_, rfl⟩, _⟩ := h
    show ws.length + 1 = 1
    rw [is.length]; rfl
  case r =>
    refine body_H h fun a ds m hp hl => ?_
    obtain ⟨hm, rfl⟩ := hp
    walk_at "body"
    walk_at "ev"
    refine v_catL (by simp) ?_
    walk_at "ev"
    refine ⟨⟨by omega, _, _, rfl, rfl, by simp, by simp⟩, fun m2 d hd => ?_⟩
    obtain ⟨hm2, c, xs, e, hc, hx⟩ := hd
    cases e
    cases hc
    obtain ⟨ms, h1, h2, rfl⟩ := scales14 hx
    exact ⟨hm2, ms, ⟨h1, h2⟩, rfl⟩

theorem ok__law_colours {f : Addr} {fd : FuncData} (F : Fun K "_law_colours" "_law_colours" s__law_colours f fd)
    {f__law_take : Addr} {fd__law_take : FuncData} (F__law_take : Fun K "_law_take" "_law_take" s__law_take f__law_take fd__law_take)
    (G__law_take : FnOk P w K mg base CX0 1 f__law_take fd__law_take ["_law_hand_here", "_law_many"] (SpH K preTake psiTake))
    (g__law_take : mg "_law_take" = some (.ref f__law_take))
    {f__law_of : Addr} {fd__law_of : FuncData} (F__law_of : Fun K "_law_of" "_law_of" s__law_of f__law_of fd__law_of)
    (G__law_of : FnOk P w K mg base CX0 2 f__law_of fd__law_of ["_law_hand_here", "_law_some"] (SpH K preOf psiOf))
    (g__law_of : mg "_law_of" = some (.ref f__law_of))
    (m_range : mg "range" = none)
    (m_tuple : mg "tuple" = none) :
    FnOk P w K mg base CX0 3 f fd ["_law_hand_here", "_law_most"] (SpH K preCol psiCol) := by
  refine F.ok sc__law_colours (fun vs H Q E h => ?len) (fun cdv A outer s H vs Q E hr h => ⟨_, (pss_cons (ps_set (i := 2) sc__law_colours.nd rfl (by first | exact Or.inl rfl | exact Or.inr rfl) (pe_call G__law_of (hr.mono (by decide)) (by rfl) g__law_of F__law_of.kp (bi__law_of F__law_of) .nil pass0 (pa_cons (pv 0) (pa_cons (pe_lst (pa_cons (pe_tupC (pa_cons pe_int pa_nil)) (pa_cons (pe_tupC (pa_cons pe_int (pa_cons pe_int (pa_cons pe_int pa_nil)))) (pa_cons (pe_tupC (pa_cons pe_int (pa_cons pe_int (pa_cons pe_int (pa_cons pe_int (pa_cons pe_int (pa_cons pe_int (pa_cons pe_int (pa_cons pe_int (pa_cons pe_int (pa_cons pe_int pa_nil))))))))))) (pa_cons (pe_tupC (pa_cons pe_int (pa_cons pe_int (pa_cons pe_int pa_nil)))) pa_nil))))) pa_nil))))
      (pss_one (ps_ret (pe_callTy (show CallR _ _ (rTupC K) from call_tupC) (by rfl) m_tuple (by decide +kernel) (pa_cons (pe_lc (own := [("_law_turn", 3)]) (g := gName 3) (tt := tYes) rfl sc__law_colours.nd (pi_range1 rfl m_range (pa_cons (pe_op op_add pe_int (pe_call G__law_take (hr.mono (by decide)) (by rfl) g__law_take F__law_take.kp (bi__law_take F__law_take) .nil pass0 (pa_cons (pv 0) (pa_cons (pe_op op_sub (pv 1) pe_int) pa_nil)))) pa_nil)) (blkOk_by (own := [("_law_turn", 3)]) (N := ["_law_hand_here", "_law_most", "_law_kinds", "_law_turn"]) (sc := defScope s__law_colours) (by decide +kernel)) (fun _ _ _ _ _ => (pg_name (i := 3) sc__law_colours.nd rfl (by first | exact Or.inl rfl | exact Or.inr rfl))) (fun _ _ _ _ _ => pts_nil) (fun _ _ _ _ _ => (pe_call G__law_of (hr.mono (by decide)) (by rfl) g__law_of F__law_of.kp (bi__law_of F__law_of) .nil pass0 (pa_cons (pv 0) (pa_cons (pv 2) pa_nil))))) pa_nil))))), ?r⟩)
  case len =>
    obtain ⟨l, ws, B, ds, m, rfl, _, _, _, is, ⟨_, z, rfl, _⟩, _⟩ := h
    show ws.length + 1 = 2
    rw [is.length]; rfl
  case r =>
    refine body_H h fun a ds m hp hl => ?_
    obtain ⟨hm, z, rfl, hz, hz2⟩ := hp
    walk_at "body"
    walk_at "ev"
    refine ⟨⟨by omega, _, _, rfl, rfl, by simp, by simp⟩, fun m2 d hd => ?_⟩
    obtain ⟨hm2, c, xs, e, hc, hx⟩ := hd
    cases e
    cases hc
    have hk : ∃ ks : List Int, d = .tup (dints ks) ∧ ks ≠ [] ∧ ks.length ≤ 10 ∧ ∀ n ∈ ks, 0 ≤ n ∧ n ≤ 9 := by
      simp only [List.mem_cons, List.not_mem_nil, or_false] at hx
      rcases hx with rfl | rfl | rfl | rfl
      · exact ⟨[0], rfl, by simp, by simp, by simp⟩
      · exact ⟨[0, 0, 1], rfl, by simp, by simp, by simp⟩
      · exact ⟨[7, 3, 2, 9, 5, 0, 1, 4, 6, 8], rfl, by simp, by simp, by simp⟩
      · exact ⟨[9, 0, 4], rfl, by simp, by simp, by simp⟩
    obtain ⟨ks, rfl, hk1, hk2, hk3⟩ := hk
    refine s_ret (e_cb (a_cons (e_lcR rfl ?_)))
    walk_at "ev"
    refine ⟨⟨by omega, _, rfl, by omega, by omega⟩, fun m3 d3 q3 => ?_⟩
    obtain ⟨hm3, n3, r3, e3, rfl, q4, q5⟩ := q3
    cases e3
    walk_at "ev"
    refine ⟨by omega, by omega, fun i n acc => n ≤ m3 + i ∧ ∃ hs : List Int, acc = dints hs ∧ hs.length = i ∧ ∀ n ∈ hs, 0 ≤ n ∧ n ≤ 9, ⟨by omega, [], rfl, rfl, by simp⟩, ?_, ?_⟩
    · intro i n acc hi hI _
      obtain ⟨hn, hs, rfl, hl2, hb⟩ := hI
      walk_at "ev"
      refine ⟨⟨by omega, _, _, rfl, rfl, ?_, by rw [dints_length]; omega⟩, fun m5 d5 q5 => ?_⟩
      · intro w
        exact hk1 (dints_inj (b := []) w)
      · obtain ⟨hm5, c, xs, e, hc, hx⟩ := q5
        cases e
        cases hc
        obtain ⟨y, hy, rfl⟩ := List.mem_map.mp hx
        refine ⟨by omega, hs ++ [y], by rw [dints_snoc], by simp [hl2], fun n hn => ?_⟩
        rcases List.mem_append.mp hn with w | w
        · exact hb n w
        · rw [List.mem_singleton] at w
          subst w
          exact hk3 _ hy
    · intro n acc hal hI
      obtain ⟨hn, hs, rfl, hl2, hb⟩ := hI
      walk_at "ev"
      refine ⟨by omega, hs, z, rfl, rfl, ⟨by omega, by omega, hb⟩, by omega⟩

theorem ok__law_grid {f : Addr} {fd : FuncData} (F : Fun K "_law_grid" "_law_grid" s__law_grid f fd)
    {f__law_take : Addr} {fd__law_take : FuncData} (F__law_take : Fun K "_law_take" "_law_take" s__law_take f__law_take fd__law_take)
    (G__law_take : FnOk P w K mg base CX0 1 f__law_take fd__law_take ["_law_hand_here", "_law_many"] (SpH K preTake psiTake))
    (g__law_take : mg "_law_take" = some (.ref f__law_take))
    {f__law_knot : Addr} {fd__law_knot : FuncData} (F__law_knot : Fun K "_law_knot" "_law_knot" s__law_knot f__law_knot fd__law_knot)
    (G__law_knot : FnOk P w K mg base CX0 2 f__law_knot fd__law_knot ["_law_hand_here", "_law_scale_here"] (SpH K preKn psiKn))
    (g__law_knot : mg "_law_knot" = some (.ref f__law_knot))
    (m_len : mg "len" = none)
    (m_range : mg "range" = none)
    (m_tuple : mg "tuple" = none) :
    FnOk P w K mg base CX0 3 f fd ["_law_hand_here", "_law_scale_here", "_law_many"] (SpH K preGrid psiGrid) := by
  refine F.ok sc__law_grid (fun vs H Q E h => ?len) (fun cdv A outer s H vs Q E hr h => ⟨_, (pss_cons (ps_asg (pe_tupC (pa_cons (pe_lst pa_nil) (pa_cons (pe_call G__law_take (hr.mono (by decide)) (by rfl) g__law_take F__law_take.kp (bi__law_take F__law_take) .nil pass0 (pa_cons (pv 0) (pa_cons pe_int pa_nil))) (pa_cons (pe_op (show OpR _ _ (rRepA K) from op_repA) (pe_tupC (pa_cons pe_int pa_nil)) (pe_callB (show CallR _ _ (rLenQ K) from call_len_seq) (by rfl) m_len (by decide +kernel) (pa_cons (pv 1) pa_nil))) pa_nil)))) (pg_tup rfl (pgs_cons (pg_name (i := 4) sc__law_grid.nd rfl (by first | exact Or.inl rfl | exact Or.inr rfl)) (pgs_cons (pg_name (i := 5) sc__law_grid.nd rfl (by first | exact Or.inl rfl | exact Or.inr rfl)) (pgs_cons (pg_name (i := 6) sc__law_grid.nd rfl (by first | exact Or.inl rfl | exact Or.inr rfl)) pgs_nil)))))
      (pss_cons (ps_for PassesOwn.never rfl (pi_range1 rfl m_range (pa_cons (pv 2) pa_nil)) (pg_name (i := 3) sc__law_grid.nd rfl (by first | exact Or.inl rfl | exact Or.inr rfl)) (pss_one (ps_expr (pe_bm PySem.F.plainAttrs_list PySem.F.slot_list_append PySem.F.type_list_append mt_append (pv 4) (pa_cons (pe_callTy (show CallR _ _ (rTupC K) from call_tupC) (by rfl) m_tuple (by decide +kernel) (pa_cons (pe_lc (own := [("_law_to", 7)]) (g := gName 7) (tt := tYes) rfl sc__law_grid.nd (pi_range1 rfl m_range (pa_cons (pv 3) pa_nil)) (blkOk_by (own := [("_law_to", 7)]) (N := ["_law_hand_here", "_law_scale_here", "_law_many", "_law_at", "_law_found", "_law_dense", "_law_bare", "_law_to"]) (sc := defScope s__law_grid) (by decide +kernel)) (fun _ _ _ _ _ => (pg_name (i := 7) sc__law_grid.nd rfl (by first | exact Or.inl rfl | exact Or.inr rfl))) (fun _ _ _ _ _ => pts_nil) (fun _ _ _ _ _ => (pe_ifExp (pt_cmpR op_ge (pe_call G__law_take (hr.mono (by decide)) (by rfl) g__law_take F__law_take.kp (bi__law_take F__law_take) .nil pass0 (pa_cons (pv 0) (pa_cons pe_int pa_nil))) (pv 5) (nomark _)) (pe_call G__law_knot (hr.mono (by decide)) (by rfl) g__law_knot F__law_knot.kp (bi__law_knot F__law_knot) .nil pass0 (pa_cons (pv 0) (pa_cons (pv 1) pa_nil))) (pv 6)))) pa_nil)) pa_nil)))))
      (pss_one (ps_ret (pe_callTy (show CallR _ _ (rTupC K) from call_tupC) (by rfl) m_tuple (by decide +kernel) (pa_cons (pv 4) pa_nil)))))), ?r⟩)
  case len =>
    obtain ⟨l, ws, B, ds, m, rfl, _, _, _, is, ⟨_, ms, n, rfl, _⟩, _⟩ := h
    show ws.length + 1 = 3
    rw [is.length]; rfl
  case r =>
    refine body_H h fun a ds m hp hl => ?_
    obtain ⟨hm, ms, n, rfl, hM, hn0, hn16⟩ := hp
    have hl3 := hM.2.1
    walk_at "body"
    refine s_seq (s_unp3Own (by decide) (by decide) ?_)
    walk_at "ev"
    refine ⟨⟨by omega, _, rfl, by omega, by omega⟩, fun m3 d3 q3 => ?_⟩
    obtain ⟨hm3, n3, r3, e3, rfl, q4, q5⟩ := q3
    cases e3
    walk_at "ev"
    refine s_forR ?_
    walk_at "ev"
    refine ⟨by omega, by omega, fun i k ρ' => k ≤ m3 + 70 * i ∧ ∃ (T : List (List (List Int))) (x6 : Option Sl), TabP ms i T ∧ ρ' = [some .hand, some (.dat (.tup (dints ms))), some (.dat (.int n)), x6, some (.own (T.map fun r => .tup (r.map fun t => .tup (dints t)))), some (.dat (.int r3)), some (.dat (.tup (dints (List.replicate ms.length 0)))), none], ⟨by omega, [], _, ⟨rfl, fun i r h => by simp at h⟩, rfl⟩, ?_, ?_⟩
    · intro i k ρ' hi hI
      obtain ⟨hk, T, x6, hT, rfl⟩ := hI
      refine s_app (i := 4) rfl (by rw [List.length_map, hT.1]; omega) ?_
      refine e_cb (a_cons (e_lcR rfl ?_))
      walk_at "ev"
      refine ⟨by omega, by omega, fun j k2 acc => k2 ≤ k + 4 * j ∧ ∃ r : List (List Int), acc = (r.map fun t => D.tup (dints t)) ∧ r.length = j ∧ ∀ t ∈ r, TieP ms t, ⟨by omega, [], rfl, rfl, by simp⟩, ?_, ?_⟩
      · intro j k2 acc hj hI2 _
        obtain ⟨hk2, r, rfl, hr, hrt⟩ := hI2
        have fin : ∀ (t : List Int), TieP ms t → ∃ r' : List (List Int), (r.map fun t => D.tup (dints t)) ++ [.tup (dints t)] = (r'.map fun t => D.tup (dints t)) ∧ r'.length = j + 1 ∧ ∀ t ∈ r', TieP ms t := by
          intro t ht
          refine ⟨r ++ [t], by simp, by simp [hr], fun u hu => ?_⟩
          rcases List.mem_append.mp hu with w | w
          · exact hrt u w
          · rw [List.mem_singleton] at w
            subst w
            exact ht
        walk_at "ev"
        refine ⟨⟨by omega, _, rfl, by omega, by omega⟩, fun m5 d5 q5 => ?_⟩
        obtain ⟨hm5, n5, r5, e5, rfl, _, _⟩ := q5
        walk_at "ev"
        cases decide (r5 ≥ r3) with
        | true =>
          show EvC _ _ _ _ _ _
          walk_at "ev"
          refine ⟨⟨by omega, ms, rfl, hM⟩, fun m6 d6 q6 => ?_⟩
          obtain ⟨hm6, ms6, t6, e6, ht6, rfl⟩ := q6
          cases tup_inj (List.cons.inj e6).1
          exact ⟨by omega, fin t6 ht6⟩
        | false =>
          show EvC _ _ _ _ _ _
          walk_at "ev"
          exact ⟨by omega, fin _ (rep_tie hM)⟩
      · intro k2 acc _ hI2
        obtain ⟨hk2, r, rfl, hr, hrt⟩ := hI2
        walk_at "ev"
        refine ⟨by omega, T ++ [r], some (.dat (.int i)), ?_, ?_⟩
        · refine ⟨by simp [hT.1], fun c r' hc => ?_⟩
          by_cases w : c < T.length
          · rw [List.getElem?_append_left w] at hc
            exact hT.2 c r' hc
          · have hc2 : c = T.length := by
              have := (List.getElem?_eq_some_iff.mp hc).1
              simp at this
              omega
            subst hc2
            rw [List.getElem?_append_right (Nat.le_refl _)] at hc
            simp at hc
            subst hc
            exact ⟨by rw [hr, hT.1]; simp, hrt⟩
        · rw [List.map_append]
          rfl
    · intro k ρ' hI
      obtain ⟨hk, T, x6, hT, rfl⟩ := hI
      show SvC _ _ _ _ _ _ _
      refine s_freeze (i := 4) rfl ?_
      walk_at "ev"
      exact ⟨by omega, ms, n, T, rfl, hT, rfl⟩

theorem ok__law_leads {f : Addr} {fd : FuncData} (F : Fun K "_law_leads" "_law_leads" s__law_leads f fd)
    {f__law_mixed : Addr} {fd__law_mixed : FuncData} (F__law_mixed : Fun K "_law_mixed" "_law_mixed" s__law_mixed f__law_mixed fd__law_mixed)
    (G__law_mixed : FnOk P w K mg base CX0 2 f__law_mixed fd__law_mixed ["_law_hand_here", "_law_some"] (SpF K preMix psiMix))
    (g__law_mixed : mg "_law_mixed" = some (.ref f__law_mixed))
    (m_dict : mg "dict" = none)
    (m_len : mg "len" = none)
    (m_range : mg "range" = none)
    (m_tuple : mg "tuple" = none) :
    FnOk P w K mg base CX0 3 f fd ["_law_hand_here", "_law_hues"] (SpH K preLd psiLd) := by
  refine F.ok sc__law_leads (fun vs H Q E h => ?len) (fun cdv A outer s H vs Q E hr h => ⟨_, (pss_cons (ps_set (i := 2) sc__law_leads.nd rfl (by first | exact Or.inl rfl | exact Or.inr rfl) (pe_callTy (show CallR _ _ (rDct K) from call_dictP rfl) (by rfl) m_dict (by decide +kernel) (pa_cons (pe_lc (own := [("_law_hue", 3)]) (g := gName 3) (tt := tYes) rfl sc__law_leads.nd (pi_tup (pv 1)) (blkOk_by (own := [("_law_hue", 3)]) (N := ["_law_hand_here", "_law_hues", "_law_left", "_law_hue", "_law_at"]) (sc := defScope s__law_leads) (by decide +kernel)) (fun _ _ _ _ _ => (pg_name (i := 3) sc__law_leads.nd rfl (by first | exact Or.inl rfl | exact Or.inr rfl))) (fun _ _ _ _ _ => pts_nil) (fun _ _ _ _ _ => (pe_tupC (pa_cons (pv 3) (pa_cons (pe_call G__law_mixed (hr.mono (by decide)) (by rfl) g__law_mixed F__law_mixed.kp (bi__law_mixed F__law_mixed) .nil pass0 (pa_cons (pv 0) (pa_cons (pe_lc (own := [("_law_at", 4)]) (g := gName 4) rfl sc__law_leads.nd (pi_range1 rfl m_range (pa_cons (pe_callB (show CallR _ _ (rLenQ K) from call_len_seq) (by rfl) m_len (by decide +kernel) (pa_cons (pv 1) pa_nil)) pa_nil)) (blkOk_by (own := [("_law_at", 4)]) (N := ["_law_hand_here", "_law_hues", "_law_left", "_law_hue", "_law_at"]) (by show blkC _ (relS _ (defScope s__law_leads)) _ _ = true; decide +kernel)) (fun _ _ _ _ _ => (pg_name (i := 4) sc__law_leads.nd rfl (by first | exact Or.inl rfl | exact Or.inr rfl))) (fun _ _ _ _ _ => (pts_one (pt_cmpR (show OpR _ _ (rEqD K) from op_eqD hr.units) (pe_ix (show IxR _ (rIxT K) from ix_tup) (pv 1) (pv 4) (fun _ _ => rfl)) (pv 3) (nomark _)))) (fun _ _ _ _ _ => (pv 4))) pa_nil))) pa_nil))))) pa_nil)))
      (pss_one (ps_ret (pe_callTy (show CallR _ _ (rTupC K) from call_tupC) (by rfl) m_tuple (by decide +kernel) (pa_cons (pe_lc (own := [("_law_hue", 3)]) (g := gName 3) (tt := tYes) rfl sc__law_leads.nd (pi_tup (pv 1)) (blkOk_by (own := [("_law_hue", 3)]) (N := ["_law_hand_here", "_law_hues", "_law_left", "_law_hue", "_law_at"]) (sc := defScope s__law_leads) (by decide +kernel)) (fun _ _ _ _ _ => (pg_name (i := 3) sc__law_leads.nd rfl (by first | exact Or.inl rfl | exact Or.inr rfl))) (fun _ _ _ _ _ => pts_nil) (fun _ _ _ _ _ => (pe_bm0K (K := K) rfl PySem.F.plainAttrs_list PySem.F.slot_list_pop PySem.F.type_list_pop mt_pop (pe_dgetR hr (pv 2) (pv 3) (fun _ _ => rfl))))) pa_nil))))), ?r⟩)
  case len =>
    obtain ⟨l, ws, B, ds, m, rfl, _, _, _, is, ⟨_, hs, rfl, _⟩, _⟩ := h
    show ws.length + 1 = 2
    rw [is.length]; rfl
  case r =>
    refine body_H h fun ad ds m hp hl => ?_
    obtain ⟨hm, hs, rfl, hn⟩ := hp
    walk_at "body"
    refine s_leads (h := 3) (d := 2) (k := 200) (hs := hs) (pos := posF hs) rfl rfl (by decide) rfl (by omega) (pos_len hs) (fun i n g hg hn2 => ?_) (fun n L hn2 hL => ?_)
    · walk_at "ro"
      have hi := (List.getElem?_eq_some_iff.mp hg).1
      refine f_call rfl ?_
      walk_at "ev"
      refine e_lcRxf rfl ?_
      walk_at "ev"
      rw [dints_length]
      refine ⟨hs.length, fun i => decide (hs.getD i 0 = g), fun i => .int i, rfl, by omega, fun j hj => ?_, fun j hj => ?_, ?_⟩
      · have hj2 : (dints hs)[j]? = some (.int (hs.getD j 0)) := by
          rw [dints, List.getElem?_map, List.getElem?_eq_getElem hj, List.getD_eq_getElem?_getD, List.getElem?_eq_getElem hj]
          rfl
        walk_at "ev"
        rfl
      · walk_at "ev"
        rfl
      · walk_at "ev"
        refine ⟨⟨by omega, _, _, rfl, rfl, ?_, ?_⟩, fun m2 es q => ?_⟩
        · rw [List.length_map]
          have := List.length_filter_le (fun i => decide (hs.getD i 0 = g)) (List.range hs.length)
          simp at this
          simp
          omega
        · intro x hx
          obtain ⟨j, hj, rfl⟩ := List.mem_map.mp hx
          have := List.mem_range.mp (List.mem_filter.mp hj).1
          exact (num_int (by omega) (by omega)).up (by omega) (by omega)
        · obtain ⟨q1, c, xs, e, hc, hP⟩ := q
          cases (List.cons.inj e).1
          cases hc
          have hP' : es.Perm (dints (posF hs g)) := by
            rw [posF, dints, List.map_map]; exact hP
          obtain ⟨L, rfl, hL⟩ := perm_ints hP'
          exact ⟨q1, L, rfl, hL⟩
    · obtain ⟨L', rfl, hL'⟩ := pop_lead hL
      refine ⟨by omega, hs, L', rfl, ?_, hL'⟩
      rw [List.map_map]
      rfl

theorem ok__law_called {f : Addr} {fd : FuncData} (F : Fun K "_law_called" "_law_called" s__law_called f fd)
    {f__law_from : Addr} {fd__law_from : FuncData} (F__law_from : Fun K "_law_from" "_law_from" s__law_from f__law_from fd__law_from)
    (G__law_from : FnOk P w K mg base CX0 2 f__law_from fd__law_from ["_law_scale_here", "_law_grid_here", "_law_at", "_law_to"] (SpP K preFm fFm))
    (g__law_from : mg "_law_from" = some (.ref f__law_from))
    (m_len : mg "len" = none)
    (m_range : mg "range" = none)
    (m_tuple : mg "tuple" = none) :
    FnOk P w K mg base CX0 3 f fd ["_law_scale_here", "_law_grid_here", "_law_leads_here"] (SpP K preCd fCd) := by
  refine F.ok sc__law_called (fun vs H Q E h => ?len) (fun cdv A outer s H vs Q E hr h => ⟨_, (pss_cons (ps_set (i := 3) sc__law_called.nd rfl (by first | exact Or.inl rfl | exact Or.inr rfl) (pe_lst pa_nil))
      (pss_cons (ps_for PassesOwn.never rfl (pi_range1 rfl m_range (pa_cons (pe_callB (show CallR _ _ (rLenQ K) from call_len_seq) (by rfl) m_len (by decide +kernel) (pa_cons (pv 2) pa_nil)) pa_nil)) (pg_name (i := 4) sc__law_called.nd rfl (by first | exact Or.inl rfl | exact Or.inr rfl)) (pss_cons (ps_setLc (i := 5) (own := [("_law_to", 6)]) (g := gName 6) (tt := tYes) rfl sc__law_called.nd rfl rfl (sw_true rfl rfl rfl (by decide +kernel)) (pi_range1 rfl m_range (pa_cons (pv 4) pa_nil)) (blkOk_by (own := [("_law_to", 6)]) (N := ["_law_scale_here", "_law_grid_here", "_law_leads_here", "_law_found", "_law_at", "_law_row", "_law_to"]) (sc := defScope s__law_called) (by decide +kernel)) (fun _ _ _ _ _ => (pg_name (i := 6) sc__law_called.nd rfl (by first | exact Or.inl rfl | exact Or.inr rfl))) (fun _ _ _ _ _ => pts_nil) (fun _ _ _ _ _ => (pe_call G__law_from (hr.mono (by decide)) (by rfl) g__law_from F__law_from.kp (bi__law_from F__law_from) .nil pass0 (pa_cons (pv 0) (pa_cons (pv 1) (pa_cons (pe_bmT PySem.F.plainAttrs_tuple PySem.F.slot_tuple_index PySem.F.type_tuple_index (show MtR _ _ (rIdx K) from mt_idx) (pv 2) (pa_cons (pv 4) pa_nil)) (pa_cons (pe_bmT PySem.F.plainAttrs_tuple PySem.F.slot_tuple_index PySem.F.type_tuple_index (show MtR _ _ (rIdx K) from mt_idx) (pv 2) (pa_cons (pv 6) pa_nil)) pa_nil)))))))
      (pss_one (ps_expr (pe_bm PySem.F.plainAttrs_list PySem.F.slot_list_append PySem.F.type_list_append mt_append (pv 3) (pa_cons (pe_callTy (show CallR _ _ (rTupC K) from call_tupC) (by rfl) m_tuple (by decide +kernel) (pa_cons (pv 5) pa_nil)) pa_nil))))))
      (pss_one (ps_ret (pe_callTy (show CallR _ _ (rTupC K) from call_tupC) (by rfl) m_tuple (by decide +kernel) (pa_cons (pv 3) pa_nil)))))), ?r⟩)
  case len =>
    obtain ⟨B, ds, _, is, ⟨ms, hs, T, L, rfl, _⟩, _⟩ := h
    exact is.length
  case r =>
    refine body_P h fun ds hp hl => ?_
    obtain ⟨ms, hs, T, L, rfl, hM, hn, hT, hL⟩ := hp
    have hl2 := hL.len
    rw [fCd_is]
    walk_at "body"
    refine s_seq (s_own0 (i := 3) ?_)
    walk_at "ro"
    walk_at "ev"
    refine s_forRw ?_
    walk_at "ev"
    rw [List.length_map]
    refine ⟨L.length, 0, [3, 4, 5], fun i xs => ∃ x4 x5, xs = [some (.own ((List.range i).map fun i => dsays ((List.range i).map fun j => webT ms T (L.idxOf i) (L.idxOf j)))), x4, x5], [_, _, _], rfl, by omega, rfl, rfl, ⟨_, _, rfl⟩, fun i n xs hi hk hx hR => ?_, fun n xs hk hx hR => ?_⟩
    · obtain ⟨x4, x5, rfl⟩ := hR
      walk_at "ro"
      walk_at "ev"
      have idx : ∀ j, j < hs.length → ∀ (ρ : Ro) (l : Option Addr) (m : Nat) (te : TE) (Φ : Nat → D → Prop), ρ[2]? = some (some (.dat (.tup (dnats L)))) → EvC K l te ρ m (fun m2 y => y = .int j ∧ Φ m2 (.int (L.idxOf j : Nat))) → EvC K l (tBMT (rIdx K) (tVar 2) (tCons te tNil)) ρ m Φ := fun j hj ρ l m te Φ h2 h3 => by
        have h1 := hL.idx hj
        refine e_idxT (e_var h2 ⟨L.map fun (i : Nat) => (i : Int), by rw [dnats, List.map_map]; rfl, e_imp h3 fun m2 y q => ?_⟩)
        obtain ⟨rfl, q⟩ := q
        refine ⟨_, rfl, L.idxOf j, by rw [List.getElem?_map, h1.1]; rfl, fun c hc e => ?_, q⟩
        rw [List.getElem?_map] at e
        cases ec : L[c]? with
        | none => rw [ec] at e; cases e
        | some d =>
          rw [ec] at e
          have : (d : Int) = j := Option.some.inj e
          have hd : d = j := by omega
          subst hd
          have := hL.inj ec h1.1
          omega
      refine e_lcRf rfl ?_
      walk_at "ev"
      refine ⟨i, fun j => .tup (dints (webT ms T (L.idxOf i) (L.idxOf j))), rfl, by omega, fun j hj => ?_, ?_⟩
      · have hi2 := hL.idx (i := i) (by omega)
        have hj2 := hL.idx (i := j) (by omega)
        have hne : L.idxOf i ≠ L.idxOf j := fun e => by
          have a := hi2.1
          rw [e, hj2.1] at a
          have := Option.some.inj a
          omega
        walk_at "ro"
        walk_at "ev"
        refine idx i (by omega) _ _ _ _ _ rfl ?_
        walk_at "ev"
        refine idx j (by omega) _ _ _ _ _ rfl ?_
        walk_at "ev"
        refine ⟨⟨ms, hs.length, T, _, _, rfl, hM, hT, hi2.2, hj2.2, hne⟩, ?_⟩
        rw [fFm_is]
        exact ⟨rfl, rfl⟩
      walk_at "ev"
      refine s_app (i := 3) rfl (by simp; omega) ?_
      walk_at "ev"
      have e : (List.range (i + 1)).map (fun i => dsays ((List.range i).map fun j => webT ms T (L.idxOf i) (L.idxOf j))) = (List.range i).map (fun i => dsays ((List.range i).map fun j => webT ms T (L.idxOf i) (L.idxOf j))) ++ [D.tup ((List.range i).map fun j => D.tup (dints (webT ms T (L.idxOf i) (L.idxOf j))))] := by
        rw [List.range_succ, List.map_append]
        show _ ++ [dsays ((List.range i).map fun j => webT ms T (L.idxOf i) (L.idxOf j))] = _
        rw [dsays, List.map_map]
        rfl
      rw [← e]
      exact ⟨[_, _, _], rfl, rfl, _, _, rfl⟩
    · obtain ⟨x4, x5, rfl⟩ := hR
      walk_at "ro"
      refine s_freeze (i := 3) rfl ?_
      walk_at "ev"
      show _ = D.tup ((mkT L.length _).map _)
      rw [mkT, List.map_map]
      rfl

theorem ok_is_tie {f : Addr} {fd : FuncData} (F : Fun K "is_tie" "is_tie" s_is_tie f fd)
    {f_is_below : Addr} {fd_is_below : FuncData} (F_is_below : Fun K "is_below" "is_below" s_is_below f_is_below fd_is_below)
    (G_is_below : FnOk P w K mg base CX0 3 f_is_below fd_is_below ["thing", "limit"] (SpP K preBelow fBelow))
    (g_is_below : mg "is_below" = some (.ref f_is_below))
    {f_is_tuple_of : Addr} {fd_is_tuple_of : FuncData} (F_is_tuple_of : Fun K "is_tuple_of" "is_tuple_of" s_is_tuple_of f_is_tuple_of fd_is_tuple_of)
    (G_is_tuple_of : FnOk P w K mg base CX0 1 f_is_tuple_of fd_is_tuple_of ["thing", "many"] (SpP K preTupOf fTupOf))
    (g_is_tuple_of : mg "is_tuple_of" = some (.ref f_is_tuple_of))
    (m_all : mg "all" = none)
    (m_len : mg "len" = none)
    (m_zip : mg "zip" = none) :
    FnOk P w K mg base CX0 4 f fd ["measure", "thing"] (SpP K preTie fTie) := by
  refine F.ok sc_is_tie (fun vs H Q E h => ?len) (fun cdv A outer s H vs Q E hr h => ⟨_, (pss_cons (ps_if (pt_not (pt_val (pe_call G_is_tuple_of (hr.mono (by decide)) (by rfl) g_is_tuple_of F_is_tuple_of.kp (bi_is_tuple_of F_is_tuple_of) .nil pass0 (pa_cons (pv 1) (pa_cons (pe_callB (show CallR _ _ (rLenQ K) from call_len_seq) (by rfl) m_len (by decide +kernel) (pa_cons (pv 0) pa_nil)) pa_nil))))) (pss_one (ps_ret pe_bl)) pss_nil)
      (pss_one (ps_ret (pe_callB (show CallR _ _ (rAll K) from cr_all rfl) (by rfl) m_all (by decide +kernel) (pa_cons (pe_lc (own := [("number", 2), ("limit", 3)]) (g := gTup K 2 (gCons (gName 2) (gCons (gName 3) gNil))) (tt := tYes) rfl sc_is_tie.nd (RZ.pi_zipA (by rfl) m_zip (pa_cons (pv 1) (pa_cons (pv 0) pa_nil))) (blkOk_by (own := [("number", 2), ("limit", 3)]) (N := ["measure", "thing", "number", "limit"]) (sc := defScope s_is_tie) (by decide +kernel)) (fun _ _ _ _ _ => (pg_tup rfl (pgs_cons (pg_name (i := 2) sc_is_tie.nd rfl (by first | exact Or.inl rfl | exact Or.inr rfl)) (pgs_cons (pg_name (i := 3) sc_is_tie.nd rfl (by first | exact Or.inl rfl | exact Or.inr rfl)) pgs_nil)))) (fun _ _ _ _ _ => pts_nil) (fun _ _ _ _ _ => (pe_call G_is_below (hr.mono (by decide)) (by rfl) g_is_below F_is_below.kp (bi_is_below F_is_below) .nil pass0 (pa_cons (pv 2) (pa_cons (pv 3) pa_nil))))) pa_nil))))), ?r⟩)
  case len =>
    obtain ⟨B, ds, _, is, ⟨ms, d, rfl, _⟩, _⟩ := h
    exact is.length
  case r =>
    refine body_P h fun ds hp hl => ?_
    obtain ⟨ms, d, rfl, hM, hpl⟩ := hp
    have ho : d.own = false := plain_own hpl
    walk_at "body"
    walk_at "ev"
    refine ⟨⟨_, _, rfl, ho⟩, ?_⟩
    walk_at "ev"
    show if (!D.tupOf _ d) = true then _ else _
    have fin : ∀ b, b = tieB ms d → D.bl b = fTie [.tup (dints ms), d] := by
      intro b e
      rw [fTie, uints_dints, e]
    cases e : D.tupOf ((dints ms).length : Int) d with
    | false =>
      refine s_ret (e_bl (fin _ ?_))
      exact (tie_no e).symm
    | true =>
      obtain ⟨xs, rfl, hx⟩ := tupOf_yes e
      have hx : xs.length = ms.length := by rw [dints_length] at hx; omega
      refine s_next ?_
      have hpx : ∀ x ∈ xs, x.own = false := fun x hx => plain_own (plains_mem (by simpa [D.plain] using hpl) hx)
      have hxl : xs.length ≤ 3 := by have := hM.2.1; omega
      walk_at "ev"
      refine e_lcZ (i := 2) (j := 3) rfl rfl (by decide) ?_
      walk_at "ev"
      refine ⟨by omega, fun c _ acc => acc = ((List.zipWith (fun x m => D.within 0 (m - 1) x) (xs.take c) (ms.take c))).map D.bl, rfl, ?_, ?_⟩
      · intro c n acc d e hd he hI _
        obtain ⟨k, hk, rfl⟩ := dints_get he
        subst hI
        walk_at "ev"
        refine ⟨⟨_, _, rfl, hpx d (List.mem_of_getElem? hd)⟩, ?_⟩
        show _ = _
        rw [take_snoc hd, take_snoc hk, zip_snoc (by rw [List.length_take, List.length_take, hx])]
        simp [fBelow]
      · intro n acc _ hI
        have em : min xs.length (dints ms).length = ms.length := by rw [dints_length]; omega
        rw [em] at hI
        subst hI
        rw [List.take_of_length_le (by omega), List.take_of_length_le (Nat.le_refl _)]
        refine a_nil (v_all (fin _ ?_))
        rw [tieB, decide_eq_true hx]
        rfl

theorem ok_is_stem_pair {f : Addr} {fd : FuncData} (F : Fun K "is_stem_pair" "is_stem_pair" s_is_stem_pair f fd)
    {f_is_below : Addr} {fd_is_below : FuncData} (F_is_below : Fun K "is_below" "is_below" s_is_below f_is_below fd_is_below)
    (G_is_below : FnOk P w K mg base CX0 3 f_is_below fd_is_below ["thing", "limit"] (SpP K preBelow fBelow))
    (g_is_below : mg "is_below" = some (.ref f_is_below))
    {f_is_tuple_of : Addr} {fd_is_tuple_of : FuncData} (F_is_tuple_of : Fun K "is_tuple_of" "is_tuple_of" s_is_tuple_of f_is_tuple_of fd_is_tuple_of)
    (G_is_tuple_of : FnOk P w K mg base CX0 1 f_is_tuple_of fd_is_tuple_of ["thing", "many"] (SpP K preTupOf fTupOf))
    (g_is_tuple_of : mg "is_tuple_of" = some (.ref f_is_tuple_of))
    {f_Frame_stem_count : Addr} {fd_Frame_stem_count : FuncData} (F_Frame_stem_count : Fun K "stem_count" "Frame.stem_count" s_Frame_stem_count f_Frame_stem_count fd_Frame_stem_count)
    (G_Frame_stem_count : FnOk P w K mg base CX0 1 f_Frame_stem_count fd_Frame_stem_count ["self"] (SpP K (preStem cFrame) fStem))
    (k_Frame : Own2 K cFrame "measure" "hues")
    (e_Frame_stem_count : Meth K cFrame "stem_count" f_Frame_stem_count)
    (m_all : mg "all" = none) :
    FnOk P w K mg base CX0 4 f fd ["frame", "thing"] (SpP K (prePlace cFrame) fSpr) := by
  refine F.ok sc_is_stem_pair (fun vs H Q E h => ?len) (fun cdv A outer s H vs Q E hr h => ⟨_, (pss_one (ps_ret (pe_and (pe_call G_is_tuple_of (hr.mono (by decide)) (by rfl) g_is_tuple_of F_is_tuple_of.kp (bi_is_tuple_of F_is_tuple_of) .nil pass0 (pa_cons (pv 1) (pa_cons pe_int pa_nil))) (pe_one (pe_callB (show CallR _ _ (rAll K) from cr_all rfl) (by rfl) m_all (by decide +kernel) (pa_cons (pe_lc (own := [("stem", 2)]) (g := gName 2) (tt := tYes) rfl sc_is_stem_pair.nd (pi_tup (pv 1)) (blkOk_by (own := [("stem", 2)]) (N := ["frame", "thing", "stem"]) (sc := defScope s_is_stem_pair) (by decide +kernel)) (fun _ _ _ _ _ => (pg_name (i := 2) sc_is_stem_pair.nd rfl (by first | exact Or.inl rfl | exact Or.inr rfl))) (fun _ _ _ _ _ => pts_nil) (fun _ _ _ _ _ => (pe_call G_is_below (hr.mono (by decide)) (by rfl) g_is_below F_is_below.kp (bi_is_below F_is_below) .nil pass0 (pa_cons (pv 2) (pa_cons (pe_meth0 (pv 0) k_Frame.cls e_Frame_stem_count G_Frame_stem_count (hr.mono (by decide)) (bi_Frame_stem_count F_Frame_stem_count) .nil pass0) pa_nil))))) pa_nil)))))), ?r⟩)
  case len =>
    obtain ⟨B, ds, _, is, ⟨ms, hs, d, rfl, _⟩, _⟩ := h
    exact is.length
  case r =>
    refine body_P h fun ds hp hl => ?_
    obtain ⟨ms, hs, d, rfl, hM, hn, hpl⟩ := hp
    have ho : d.own = false := plain_own hpl
    rw [fSpr_is]
    walk_at "body"
    walk_at "ev"
    refine ⟨⟨_, _, rfl, ho⟩, ?_⟩
    show ∃ b, D.bl (D.tupOf 2 d) = D.bl b ∧ _
    walk_at "ev"
    cases e : D.tupOf 2 d with
    | false =>
      walk_at "ev"
      have : prB hs.length d = false := by
        cases eb : prB hs.length d with
        | false => rfl
        | true =>
          obtain ⟨p, rfl, _⟩ := prB_iff.mp eb
          cases e
      rw [this]
    | true =>
      obtain ⟨xs, rfl, hx⟩ := tupOf_yes e
      match xs, hx with
      | [a, b], _ =>
      have hp2 : ∀ x ∈ [a, b], x.plain = true := fun x hx => plains_mem (by simpa [D.plain] using hpl) hx
      walk_at "ev"
      refine e_lcTf rfl ?_
      walk_at "ev"
      refine ⟨D, [a, b], id, fun x => .bl (D.within 0 ((hs.length : Int) - 1) x), by simp, by simp, fun i x hi => ?_, ?_⟩
      · walk_at "ro"
        walk_at "ev"
        refine ⟨⟨_, _, rfl, plain_own (hp2 x (List.mem_of_getElem? hi))⟩, ?_⟩
        exact ⟨rfl, rfl⟩
      refine a_nil (v_allM ?_)
      show D.bl (D.within 0 ((hs.length : Int) - 1) a && (D.within 0 ((hs.length : Int) - 1) b && true)) = .bl (D.within 0 ((hs.length : Int) - 1) a && D.within 0 ((hs.length : Int) - 1) b)
      rw [Bool.and_true]

theorem ok_are_hues {f : Addr} {fd : FuncData} (F : Fun K "are_hues" "are_hues" s_are_hues f fd)
    {f_is_within : Addr} {fd_is_within : FuncData} (F_is_within : Fun K "is_within" "is_within" s_is_within f_is_within fd_is_within)
    (G_is_within : FnOk P w K mg base CX0 2 f_is_within fd_is_within ["thing", "least", "most"] (SpP K preWithin fWithin))
    (g_is_within : mg "is_within" = some (.ref f_is_within))
    {f_is_hue : Addr} {fd_is_hue : FuncData} (F_is_hue : Fun K "is_hue" "is_hue" s_is_hue f_is_hue fd_is_hue)
    (G_is_hue : FnOk P w K mg base CX0 3 f_is_hue fd_is_hue ["thing"] (SpP K preWhole fHue))
    (g_is_hue : mg "is_hue" = some (.ref f_is_hue))
    {t_LEAST_STEMS : Tok} (c_LEAST_STEMS : mg "LEAST_STEMS" = some (.int 2 t_LEAST_STEMS))
    {t_MOST_STEMS : Tok} (c_MOST_STEMS : mg "MOST_STEMS" = some (.int 16 t_MOST_STEMS))
    (m_all : mg "all" = none)
    (m_isinstance : mg "isinstance" = none)
    (m_len : mg "len" = none)
    (m_tuple : mg "tuple" = none) :
    FnOk P w K mg base CX0 4 f fd ["thing"] (SpP K preMeas fHues) := by
  refine F.ok sc_are_hues (fun vs H Q E h => ?len) (fun cdv A outer s H vs Q E hr h => ⟨_, (pss_cons (ps_if (PW.pt (pw_or (pt_not (pt_val (pe_callB (show CallR _ _ (rIsi K) from call_isi) (by rfl) m_isinstance (by decide +kernel) (pa_cons (pv 0) (pa_cons (pe_bltn (v := .ty "tuple") (by rfl) m_tuple (by decide +kernel) rfl) pa_nil))))) (pw_or1 (pt_not (pt_val (pe_call G_is_within (hr.mono (by decide)) (by rfl) g_is_within F_is_within.kp (bi_is_within F_is_within) .nil pass0 (pa_cons (pe_callB (show CallR _ _ (rLenQ K) from call_len_seq) (by rfl) m_len (by decide +kernel) (pa_cons (pv 0) pa_nil)) (pa_cons (pe_glob (v := .int 2) (by rfl) c_LEAST_STEMS ⟨_, rfl⟩) (pa_cons (pe_glob (v := .int 16) (by rfl) c_MOST_STEMS ⟨_, rfl⟩) pa_nil))))))))) (pss_one (ps_ret pe_bl)) pss_nil)
      (pss_one (ps_ret (pe_callB (show CallR _ _ (rAll K) from cr_all rfl) (by rfl) m_all (by decide +kernel) (pa_cons (pe_lc (own := [("hue", 1)]) (g := gName 1) (tt := tYes) rfl sc_are_hues.nd (pi_tup (pv 0)) (blkOk_by (own := [("hue", 1)]) (N := ["thing", "hue"]) (sc := defScope s_are_hues) (by decide +kernel)) (fun _ _ _ _ _ => (pg_name (i := 1) sc_are_hues.nd rfl (by first | exact Or.inl rfl | exact Or.inr rfl))) (fun _ _ _ _ _ => pts_nil) (fun _ _ _ _ _ => (pe_call G_is_hue (hr.mono (by decide)) (by rfl) g_is_hue F_is_hue.kp (bi_is_hue F_is_hue) .nil pass0 (pa_cons (pv 1) pa_nil)))) pa_nil))))), ?r⟩)
  case len =>
    obtain ⟨B, ds, _, is, ⟨d, rfl, _⟩, _⟩ := h
    exact is.length
  case r =>
    refine body_P h fun ds hp hl => ?_
    obtain ⟨d, rfl, hpl⟩ := hp
    have ho : d.own = false := plain_own hpl
    walk_at "body"
    refine s_seq (s_if (t_or (t_not (t_B (e_isi kit_tup (e_var rfl ⟨ho, _, rfl, ?_⟩))))))
    cases d with
    | tup xs =>
      show TvC _ _ _ _ _ _
      refine t_not (t_B ?_)
      walk_at "ev"
      refine ⟨⟨_, _, _, rfl, rfl⟩, _, rfl, ?_⟩
      have ew : D.within 2 16 (.int xs.length) = (decide (2 ≤ xs.length) && decide (xs.length ≤ 16)) := by
        rw [D.within]
        congr 1
        · simp only [decide_eq_decide]; omega
        · simp only [decide_eq_decide]; omega
      cases e : D.within 2 16 (.int xs.length) with
      | false =>
        refine s_ret (e_bl ?_)
        show D.bl false = .bl (D.huesB (.tup xs))
        rw [D.huesB, ← ew, e]; rfl
      | true =>
        refine s_next ?_
        have hlen : xs.length ≤ 16 := by
          rw [e] at ew
          have := ew.symm
          rw [Bool.and_eq_true, decide_eq_true_eq, decide_eq_true_eq] at this
          exact this.2
        have hpx : ∀ x ∈ xs, x.own = false := fun x hx => plain_own (plains_mem (by simpa [D.plain] using hpl) hx)
        refine s_ret (e_cb (a_cons (e_lcT rfl (e_var rfl ⟨xs, rfl, by omega, fun i _ acc => acc = ((xs.take i).map (D.within 0 9)).map D.bl, rfl, ?_, ?_⟩))))
        · intro i n acc d hd hI _
          walk_at "ev"
          refine ⟨⟨_, rfl, hpx d (List.mem_of_getElem? hd)⟩, ?_⟩
          subst hI
          rw [List.take_add_one, hd]
          simp [fHue]
        · intro n acc _ hI
          subst hI
          rw [List.take_length]
          refine a_nil (v_all ?_)
          have ea : ((xs.map (D.within 0 9)).all id) = xs.all (D.within 0 9) := by
            rw [List.all_map]; rfl
          rw [ea]
          show D.bl _ = .bl (D.huesB (.tup xs))
          rw [D.huesB, ← ew, e]; rfl
    | _ => exact s_ret (e_bl rfl)

theorem ok_are_ties {f : Addr} {fd : FuncData} (F : Fun K "are_ties" "are_ties" s_are_ties f fd)
    {f_is_tuple_of : Addr} {fd_is_tuple_of : FuncData} (F_is_tuple_of : Fun K "is_tuple_of" "is_tuple_of" s_is_tuple_of f_is_tuple_of fd_is_tuple_of)
    (G_is_tuple_of : FnOk P w K mg base CX0 1 f_is_tuple_of fd_is_tuple_of ["thing", "many"] (SpP K preTupOf fTupOf))
    (g_is_tuple_of : mg "is_tuple_of" = some (.ref f_is_tuple_of))
    {f_is_tie : Addr} {fd_is_tie : FuncData} (F_is_tie : Fun K "is_tie" "is_tie" s_is_tie f_is_tie fd_is_tie)
    (G_is_tie : FnOk P w K mg base CX0 4 f_is_tie fd_is_tie ["measure", "thing"] (SpP K preTie fTie))
    (g_is_tie : mg "is_tie" = some (.ref f_is_tie))
    (m_all : mg "all" = none) :
    FnOk P w K mg base CX0 5 f fd ["measure", "thing", "many"] (SpP K preTies fTies) := by
  refine F.ok sc_are_ties (fun vs H Q E h => ?len) (fun cdv A outer s H vs Q E hr h => ⟨_, (pss_one (ps_ret (pe_and (pe_call G_is_tuple_of (hr.mono (by decide)) (by rfl) g_is_tuple_of F_is_tuple_of.kp (bi_is_tuple_of F_is_tuple_of) .nil pass0 (pa_cons (pv 1) (pa_cons (pv 2) pa_nil))) (pe_one (pe_callB (show CallR _ _ (rAll K) from cr_all rfl) (by rfl) m_all (by decide +kernel) (pa_cons (pe_lc (own := [("part", 3)]) (g := gName 3) (tt := tYes) rfl sc_are_ties.nd (pi_tup (pv 1)) (blkOk_by (own := [("part", 3)]) (N := ["measure", "thing", "many", "part"]) (sc := defScope s_are_ties) (by decide +kernel)) (fun _ _ _ _ _ => (pg_name (i := 3) sc_are_ties.nd rfl (by first | exact Or.inl rfl | exact Or.inr rfl))) (fun _ _ _ _ _ => pts_nil) (fun _ _ _ _ _ => (pe_call G_is_tie (hr.mono (by decide)) (by rfl) g_is_tie F_is_tie.kp (bi_is_tie F_is_tie) .nil pass0 (pa_cons (pv 0) (pa_cons (pv 3) pa_nil))))) pa_nil)))))), ?r⟩)
  case len =>
    obtain ⟨B, ds, _, is, ⟨ms, d, n, rfl, _⟩, _⟩ := h
    exact is.length
  case r =>
    refine body_P h fun ds hp hl => ?_
    obtain ⟨ms, d, n, rfl, hM, hpl, hn⟩ := hp
    have ho : d.own = false := plain_own hpl
    have fin : ∀ b, b = tiesB ms n d → D.bl b = fTies [.tup (dints ms), d, .int n] := by
      intro b e
      rw [fTies, uints_dints, e]
    walk_at "body"
    walk_at "ev"
    refine ⟨⟨_, _, rfl, ho⟩, ?_⟩
    show ∃ b, D.bl (D.tupOf n d) = D.bl b ∧ _
    walk_at "ev"
    cases e : D.tupOf n d with
    | false =>
      walk_at "ev"
      refine fin _ ?_
      cases d with
      | tup xs => rw [D.tupOf] at e; rw [tiesB, e]; rfl
      | _ => rfl
    | true =>
      obtain ⟨xs, rfl, hx⟩ := tupOf_yes e
      walk_at "ev"
      refine e_lcTf rfl ?_
      walk_at "ev"
      refine ⟨D, xs, id, fun x => .bl (tieB ms x), by simp, by omega, fun i x hi => ?_, ?_⟩
      · walk_at "ev"
        refine ⟨⟨ms, x, rfl, hM, plains_mem (by simpa [D.plain] using hpl) (List.mem_of_getElem? hi)⟩, ?_⟩
        rw [fTie, uints_dints]
        exact ⟨rfl, rfl⟩
      · refine a_nil (v_allM (fin _ ?_))
        rw [tiesB, decide_eq_true hx]
        rfl

theorem ok_is_likeness {f : Addr} {fd : FuncData} (F : Fun K "is_likeness" "is_likeness" s_is_likeness f fd)
    {f_are_matched : Addr} {fd_are_matched : FuncData} (F_are_matched : Fun K "are_matched" "are_matched" s_are_matched f_are_matched fd_are_matched)
    (G_are_matched : FnOk P w K mg base CX0 2 f_are_matched fd_are_matched ["pairs"] (SpP K preMaD fMaD))
    (g_are_matched : mg "are_matched" = some (.ref f_are_matched))
    {f_is_stem_pair : Addr} {fd_is_stem_pair : FuncData} (F_is_stem_pair : Fun K "is_stem_pair" "is_stem_pair" s_is_stem_pair f_is_stem_pair fd_is_stem_pair)
    (G_is_stem_pair : FnOk P w K mg base CX0 4 f_is_stem_pair fd_is_stem_pair ["frame", "thing"] (SpP K (prePlace cFrame) fSpr))
    (g_is_stem_pair : mg "is_stem_pair" = some (.ref f_is_stem_pair))
    {f_keeps_hues : Addr} {fd_keeps_hues : FuncData} (F_keeps_hues : Fun K "keeps_hues" "keeps_hues" s_keeps_hues f_keeps_hues fd_keeps_hues)
    (G_keeps_hues : FnOk P w K mg base CX0 1 f_keeps_hues fd_keeps_hues ["frame", "pairs"] (SpP K (preKh cFrame) fKh))
    (g_keeps_hues : mg "keeps_hues" = some (.ref f_keeps_hues))
    {f_keeps_ties : Addr} {fd_keeps_ties : FuncData} (F_keeps_ties : Fun K "keeps_ties" "keeps_ties" s_keeps_ties f_keeps_ties fd_keeps_ties)
    (G_keeps_ties : FnOk P w K mg base CX0 3 f_keeps_ties fd_keeps_ties ["frame", "web", "other", "pairs"] (SpP K (preKt cFrame) fKt))
    (g_keeps_ties : mg "keeps_ties" = some (.ref f_keeps_ties))
    (m_all : mg "all" = none)
    (m_isinstance : mg "isinstance" = none)
    (m_tuple : mg "tuple" = none) :
    FnOk P w K mg base CX0 5 f fd ["frame", "web", "other", "thing"] (SpP K (preLk cFrame) fLk) := by
  refine F.ok sc_is_likeness (fun vs H Q E h => ?len) (fun cdv A outer s H vs Q E hr h => ⟨_, (pss_cons (ps_if (PW.pt (pw_or (pt_not (pt_val (pe_callB (show CallR _ _ (rIsi K) from call_isi) (by rfl) m_isinstance (by decide +kernel) (pa_cons (pv 3) (pa_cons (pe_bltn (v := .ty "tuple") (by rfl) m_tuple (by decide +kernel) rfl) pa_nil))))) (pw_or1 (pt_not (pt_val (pe_callB (show CallR _ _ (rAll K) from cr_all rfl) (by rfl) m_all (by decide +kernel) (pa_cons (pe_lc (own := [("pair", 4)]) (g := gName 4) (tt := tYes) rfl sc_is_likeness.nd (pi_tup (pv 3)) (blkOk_by (own := [("pair", 4)]) (N := ["frame", "web", "other", "thing", "pair"]) (sc := defScope s_is_likeness) (by decide +kernel)) (fun _ _ _ _ _ => (pg_name (i := 4) sc_is_likeness.nd rfl (by first | exact Or.inl rfl | exact Or.inr rfl))) (fun _ _ _ _ _ => pts_nil) (fun _ _ _ _ _ => (pe_call G_is_stem_pair (hr.mono (by decide)) (by rfl) g_is_stem_pair F_is_stem_pair.kp (bi_is_stem_pair F_is_stem_pair) .nil pass0 (pa_cons (pv 0) (pa_cons (pv 4) pa_nil))))) pa_nil))))))) (pss_one (ps_ret pe_bl)) pss_nil)
      (pss_one (ps_ret (pe_and (pe_call G_are_matched (hr.mono (by decide)) (by rfl) g_are_matched F_are_matched.kp (bi_are_matched F_are_matched) .nil pass0 (pa_cons (pv 3) pa_nil)) (pe_and (pe_call G_keeps_hues (hr.mono (by decide)) (by rfl) g_keeps_hues F_keeps_hues.kp (bi_keeps_hues F_keeps_hues) .nil pass0 (pa_cons (pv 0) (pa_cons (pv 3) pa_nil))) (pe_one (pe_call G_keeps_ties (hr.mono (by decide)) (by rfl) g_keeps_ties F_keeps_ties.kp (bi_keeps_ties F_keeps_ties) .nil pass0 (pa_cons (pv 0) (pa_cons (pv 1) (pa_cons (pv 2) (pa_cons (pv 3) pa_nil))))))))))), ?r⟩)
  case len =>
    obtain ⟨B, ds, _, is, ⟨ms, hs, T, U, d, rfl, _⟩, _⟩ := h
    exact is.length
  case r =>
    refine body_P h fun ds hp hl => ?_
    obtain ⟨ms, hs, T, U, d, rfl, hM, hn, hT, hU, hpl, hsh⟩ := hp
    have ho : d.own = false := plain_own hpl
    rw [fLk_is]
    walk_at "body"
    walk_at "ev"
    refine ⟨ho, _, rfl, ?_⟩
    cases d with
    | tup xs =>
      have hxl := hsh xs rfl
      have hpx : ∀ x ∈ xs, x.plain = true := fun x hx => plains_mem (by simpa [D.plain] using hpl) hx
      show if (!true) = true then _ else _
      walk_at "ev"
      refine e_lcTf rfl ?_
      walk_at "ev"
      refine ⟨D, xs, id, fun x => .bl (prB hs.length x), by simp, by omega, fun i x hi => ?_, ?_⟩
      · walk_at "ro"
        walk_at "ev"
        refine ⟨⟨ms, hs, x, rfl, hM, by omega, hpx x (List.mem_of_getElem? hi)⟩, ?_⟩
        rw [show fSpr [D.ins cFrame [Str.ofString "measure", Str.ofString "hues"] [D.tup (dints ms), D.tup (dints hs)], id x] = .bl (prB hs.length x) from fSpr_is cFrame ms hs x]
        exact ⟨rfl, rfl⟩
      refine a_nil (v_allM ?_)
      walk_at "ev"
      cases eb : xs.all (prB hs.length) with
      | false =>
        walk_at "ev"
        rw [cB_false]
        rintro ⟨P, e, hP, _⟩
        cases e
        rw [prs_all.mpr ⟨P, rfl, hP⟩] at eb
        cases eb
      | true =>
        obtain ⟨P, rfl, hP⟩ := prs_all.mp eb
        rw [List.length_map] at hxl
        walk_at "ev"
        refine ⟨dps_pre (fun p hp => by have := hP p hp; omega) hxl, ?_⟩
        rw [fMaD_is, propext (matched_dps P)]
        walk_at "ev"
        by_cases hm : Mat P
        · rw [cB_true hm]
          walk_at "ev"
          refine ⟨⟨ms, hs, P, rfl, hP, hxl⟩, ?_⟩
          rw [show fKh [D.ins cFrame [Str.ofString "measure", Str.ofString "hues"] [D.tup (dints ms), D.tup (dints hs)], .tup (P.map dp)] = .bl (cB (Hue hs P)) from fKh_is cFrame ms hs P]
          walk_at "ev"
          by_cases hh : Hue hs P
          · rw [cB_true hh]
            walk_at "ev"
            refine ⟨⟨ms, hs, T, U, P, rfl, hM, hn, hT, hU, hP, hm⟩, ?_⟩
            rw [show fKt [D.ins cFrame [Str.ofString "measure", Str.ofString "hues"] [D.tup (dints ms), D.tup (dints hs)], dtab T, dtab U, .tup (P.map dp)] = .bl (cB (Tis ms T U P)) from fKt_is cFrame ms hs T U P]
            by_cases ht : Tis ms T U P
            · rw [cB_true ht, cB_true (like_iff.mpr ⟨hP, hm, hh, ht⟩)]
            · rw [cB_false ht, cB_false fun z => ht (like_iff.mp z).2.2.2]
          · rw [cB_false hh, cB_false fun z => hh (like_iff.mp z).2.2.1]
            walk_at "ev"
        · rw [cB_false hm, cB_false fun z => hm (like_iff.mp z).2.1]
          walk_at "ev"
    | _ =>
      show if (!false) = true then _ else _
      walk_at "ev"
      rw [cB_false]
      rintro ⟨P, e, _⟩
      cases e

theorem ok_Frame_init {f : Addr} {fd : FuncData} (F : Fun K "__init__" "Frame.__init__" s_Frame_init f fd)
    {f_is_measure : Addr} {fd_is_measure : FuncData} (F_is_measure : Fun K "is_measure" "is_measure" s_is_measure f_is_measure fd_is_measure)
    (G_is_measure : FnOk P w K mg base CX0 3 f_is_measure fd_is_measure ["thing"] (SpP K preMeas fMeas))
    (g_is_measure : mg "is_measure" = some (.ref f_is_measure))
    {f_are_hues : Addr} {fd_are_hues : FuncData} (F_are_hues : Fun K "are_hues" "are_hues" s_are_hues f_are_hues fd_are_hues)
    (G_are_hues : FnOk P w K mg base CX0 4 f_are_hues fd_are_hues ["thing"] (SpP K preMeas fHues))
    (g_are_hues : mg "are_hues" = some (.ref f_are_hues))
    (k_Frame : Own2 K cFrame "measure" "hues") :
    FnOk P w K mg base CX0 5 f fd ["self", "measure", "hues"] (SpI K cFrame "measure" "hues" preFrame) := by
  refine F.ok sc_Frame_init (fun vs H Q E h => ?len) (fun cdv A outer s H vs Q E hr h => ⟨_, (pss_cons (ps_if (pt_not (pt_val (pe_call G_is_measure (hr.mono (by decide)) (by rfl) g_is_measure F_is_measure.kp (bi_is_measure F_is_measure) .nil pass0 (pa_cons (pv 1) pa_nil)))) (pss_one ps_never) pss_nil)
      (pss_cons (ps_if (pt_not (pt_val (pe_call G_are_hues (hr.mono (by decide)) (by rfl) g_are_hues F_are_hues.kp (bi_are_hues F_are_hues) .nil pass0 (pa_cons (pv 2) pa_nil)))) (pss_one ps_never) pss_nil)
      (pss_cons (ps_fldK (K := K) rfl (pv 0) (pv 1) rfl)
      (pss_one (ps_fldK (K := K) rfl (pv 0) (pv 2) rfl))))), ?r⟩)
  case len =>
    obtain ⟨x, dx, B, v1, v2, d1, d2, rfl, _⟩ := h
    rfl
  case r =>
    refine body_I rfl k_Frame (by decide) h fun d1 d2 hp => ?_
    obtain ⟨ms, hs, e, hm, hh⟩ := hp
    cases e
    refine ⟨?_, fun n => ?_⟩
    · refine t_not (t_B ?_)
      walk_at "ev"
      refine ⟨⟨_, rfl, plain_ints ms⟩, _, rfl, ?_⟩
      rw [meas_of hm]; rfl
    · refine t_not (t_B ?_)
      walk_at "ev"
      refine ⟨⟨_, rfl, plain_ints hs⟩, _, rfl, ?_⟩
      rw [hues_of hh]; rfl

theorem ok_is_place {f : Addr} {fd : FuncData} (F : Fun K "is_place" "is_place" s_is_place f fd)
    {f_is_below : Addr} {fd_is_below : FuncData} (F_is_below : Fun K "is_below" "is_below" s_is_below f_is_below fd_is_below)
    (G_is_below : FnOk P w K mg base CX0 3 f_is_below fd_is_below ["thing", "limit"] (SpP K preBelow fBelow))
    (g_is_below : mg "is_below" = some (.ref f_is_below))
    {f_is_tuple_of : Addr} {fd_is_tuple_of : FuncData} (F_is_tuple_of : Fun K "is_tuple_of" "is_tuple_of" s_is_tuple_of f_is_tuple_of fd_is_tuple_of)
    (G_is_tuple_of : FnOk P w K mg base CX0 1 f_is_tuple_of fd_is_tuple_of ["thing", "many"] (SpP K preTupOf fTupOf))
    (g_is_tuple_of : mg "is_tuple_of" = some (.ref f_is_tuple_of))
    {f_are_ties : Addr} {fd_are_ties : FuncData} (F_are_ties : Fun K "are_ties" "are_ties" s_are_ties f_are_ties fd_are_ties)
    (G_are_ties : FnOk P w K mg base CX0 5 f_are_ties fd_are_ties ["measure", "thing", "many"] (SpP K preTies fTies))
    (g_are_ties : mg "are_ties" = some (.ref f_are_ties))
    {f_nought : Addr} {fd_nought : FuncData} (F_nought : Fun K "nought" "nought" s_nought f_nought fd_nought)
    (G_nought : FnOk P w K mg base CX0 1 f_nought fd_nought ["measure"] (SpP K preMs1 fNou))
    (g_nought : mg "nought" = some (.ref f_nought))
    {f_Frame_stem_count : Addr} {fd_Frame_stem_count : FuncData} (F_Frame_stem_count : Fun K "stem_count" "Frame.stem_count" s_Frame_stem_count f_Frame_stem_count fd_Frame_stem_count)
    (G_Frame_stem_count : FnOk P w K mg base CX0 1 f_Frame_stem_count fd_Frame_stem_count ["self"] (SpP K (preStem cFrame) fStem))
    (k_Frame : Own2 K cFrame "measure" "hues")
    (e_Frame_stem_count : Meth K cFrame "stem_count" f_Frame_stem_count) :
    FnOk P w K mg base CX0 6 f fd ["frame", "thing"] (SpP K (prePlace cFrame) fPlace) := by
  refine F.ok sc_is_place (fun vs H Q E h => ?len) (fun cdv A outer s H vs Q E hr h => ⟨_, (pss_cons (ps_if (pt_not (pt_val (pe_call G_is_tuple_of (hr.mono (by decide)) (by rfl) g_is_tuple_of F_is_tuple_of.kp (bi_is_tuple_of F_is_tuple_of) .nil pass0 (pa_cons (pv 1) (pa_cons pe_int pa_nil))))) (pss_one (ps_ret pe_bl)) pss_nil)
      (pss_cons (ps_asg (pv 1) (pg_tup rfl (pgs_cons (pg_name (i := 2) sc_is_place.nd rfl (by first | exact Or.inl rfl | exact Or.inr rfl)) (pgs_cons (pg_name (i := 3) sc_is_place.nd rfl (by first | exact Or.inl rfl | exact Or.inr rfl)) pgs_nil))))
      (pss_cons (ps_if (PW.pt (pw_or (pt_not (pt_val (pe_call G_is_below (hr.mono (by decide)) (by rfl) g_is_below F_is_below.kp (bi_is_below F_is_below) .nil pass0 (pa_cons (pv 2) (pa_cons (pe_meth0 (pv 0) k_Frame.cls e_Frame_stem_count G_Frame_stem_count (hr.mono (by decide)) (bi_Frame_stem_count F_Frame_stem_count) .nil pass0) pa_nil))))) (pw_or1 (pt_not (pt_val (pe_call G_are_ties (hr.mono (by decide)) (by rfl) g_are_ties F_are_ties.kp (bi_are_ties F_are_ties) .nil pass0 (pa_cons (pe_fldK (K := K) rfl (pv 0) rfl) (pa_cons (pv 3) (pa_cons (pe_meth0 (pv 0) k_Frame.cls e_Frame_stem_count G_Frame_stem_count (hr.mono (by decide)) (bi_Frame_stem_count F_Frame_stem_count) .nil pass0) pa_nil))))))))) (pss_one (ps_ret pe_bl)) pss_nil)
      (pss_one (ps_ret (pe_cmpR (show OpR _ _ (rEqD K) from op_eqD hr.units) (pe_ix (show IxR _ (rIxT K) from ix_tup) (pv 3) (pv 2) (fun _ _ => rfl)) (pe_call G_nought (hr.mono (by decide)) (by rfl) g_nought F_nought.kp (bi_nought F_nought) .nil pass0 (pa_cons (pe_fldK (K := K) rfl (pv 0) rfl) pa_nil)) (nomark _))))))), ?r⟩)
  case len =>
    obtain ⟨B, ds, _, is, ⟨ms, hs, d, rfl, _⟩, _⟩ := h
    exact is.length
  case r =>
    refine body_P h fun ds hp hl => ?_
    obtain ⟨ms, hs, d, rfl, hM, hn, hpl⟩ := hp
    have ho : d.own = false := plain_own hpl
    rw [fPlace_is]
    walk_at "body"
    walk_at "ev"
    refine ⟨⟨_, _, rfl, ho⟩, ?_⟩
    show ∃ b, D.bl (D.tupOf 2 d) = D.bl b ∧ _
    walk_at "ev"
    cases e : D.tupOf 2 d with
    | false =>
      walk_at "ev"
      congr 1
      symm
      cases q : placeB ms hs.length d with
      | false => rfl
      | true =>
        obtain ⟨a, S, rfl, _⟩ := (placeB_iff hM).mp q
        cases e
    | true =>
      obtain ⟨xs, rfl, hx⟩ := tupOf_yes e
      match xs, hx with
      | [a, sy], _ =>
      have hp2 : a.plain = true ∧ sy.plain = true := by
        rw [D.plain, D.plains, D.plains, D.plains] at hpl
        simpa using hpl
      walk_at "ev"
      refine ⟨⟨_, _, rfl, plain_own hp2.1⟩, ?_⟩
      show ∃ b, D.bl (D.within 0 ((hs.length : Int) - 1) a) = D.bl b ∧ _
      walk_at "ev"
      have no : ∀ b : Bool, (placeB ms hs.length (.tup [a, sy]) = true → b = true) → b = false → D.bl false = .bl (placeB ms hs.length (.tup [a, sy])) := by
        intro b h1 h2
        cases q : placeB ms hs.length (.tup [a, sy]) with
        | false => rfl
        | true => rw [h1 q] at h2; cases h2
      cases e1 : D.within 0 ((hs.length : Int) - 1) a with
      | false =>
        walk_at "ev"
        exact no _ (fun q => (placeB_parts hM q).1) e1
      | true =>
        walk_at "ev"
        refine ⟨⟨ms, sy, _, rfl, hM, hp2.2, by omega⟩, ?_⟩
        rw [fTies, uints_dints]
        walk_at "ev"
        cases e2 : tiesB ms (hs.length : Int) sy with
        | false =>
          walk_at "ev"
          exact no _ (fun q => (placeB_parts hM q).2) e2
        | true =>
          obtain ⟨S, rfl, hS1, hS2⟩ := tiesB_iff.mp e2
          cases a with
          | int i =>
            have hi := e1
            rw [D.within, Bool.and_eq_true, decide_eq_true_eq, decide_eq_true_eq] at hi
            obtain ⟨t, et⟩ := says_get (c := i.toNat) hS1 (by omega)
            have ht := hS2 t (List.mem_of_getElem? et)
            walk_at "ev"
            refine v_ixT (by omega) (dsays_get et) ?_
            walk_at "ev"
            refine v_eqD ((ht.num hM).eqs (by omega)) (((rep_tie hM).num hM).eqs (by omega)) ?_
            rw [placeB, e1, show tiesB ms hs.length (.tup (S.map fun t => .tup (dints t))) = true from e2, dsays_get et]
            rfl
          | _ => cases e1

theorem ok_is_row {f : Addr} {fd : FuncData} (F : Fun K "is_row" "is_row" s_is_row f fd)
    {f_is_tuple_of : Addr} {fd_is_tuple_of : FuncData} (F_is_tuple_of : Fun K "is_tuple_of" "is_tuple_of" s_is_tuple_of f_is_tuple_of fd_is_tuple_of)
    (G_is_tuple_of : FnOk P w K mg base CX0 1 f_is_tuple_of fd_is_tuple_of ["thing", "many"] (SpP K preTupOf fTupOf))
    (g_is_tuple_of : mg "is_tuple_of" = some (.ref f_is_tuple_of))
    {f_is_place : Addr} {fd_is_place : FuncData} (F_is_place : Fun K "is_place" "is_place" s_is_place f_is_place fd_is_place)
    (G_is_place : FnOk P w K mg base CX0 6 f_is_place fd_is_place ["frame", "thing"] (SpP K (prePlace cFrame) fPlace))
    (g_is_place : mg "is_place" = some (.ref f_is_place))
    (m_all : mg "all" = none) :
    FnOk P w K mg base CX0 7 f fd ["frame", "thing"] (SpP K (prePlace cFrame) fRow) := by
  refine F.ok sc_is_row (fun vs H Q E h => ?len) (fun cdv A outer s H vs Q E hr h => ⟨_, (pss_one (ps_ret (pe_and (pe_call G_is_tuple_of (hr.mono (by decide)) (by rfl) g_is_tuple_of F_is_tuple_of.kp (bi_is_tuple_of F_is_tuple_of) .nil pass0 (pa_cons (pv 1) (pa_cons pe_int pa_nil))) (pe_one (pe_callB (show CallR _ _ (rAll K) from cr_all rfl) (by rfl) m_all (by decide +kernel) (pa_cons (pe_lc (own := [("place", 2)]) (g := gName 2) (tt := tYes) rfl sc_is_row.nd (pi_tup (pv 1)) (blkOk_by (own := [("place", 2)]) (N := ["frame", "thing", "place"]) (sc := defScope s_is_row) (by decide +kernel)) (fun _ _ _ _ _ => (pg_name (i := 2) sc_is_row.nd rfl (by first | exact Or.inl rfl | exact Or.inr rfl))) (fun _ _ _ _ _ => pts_nil) (fun _ _ _ _ _ => (pe_call G_is_place (hr.mono (by decide)) (by rfl) g_is_place F_is_place.kp (bi_is_place F_is_place) .nil pass0 (pa_cons (pv 0) (pa_cons (pv 2) pa_nil))))) pa_nil)))))), ?r⟩)
  case len =>
    obtain ⟨B, ds, _, is, ⟨ms, hs, d, rfl, _⟩, _⟩ := h
    exact is.length
  case r =>
    refine body_P h fun ds hp hl => ?_
    obtain ⟨ms, hs, d, rfl, hM, hn, hpl⟩ := hp
    have ho : d.own = false := plain_own hpl
    rw [fRow_is]
    walk_at "body"
    walk_at "ev"
    refine ⟨⟨_, _, rfl, ho⟩, ?_⟩
    show ∃ b, D.bl (D.tupOf 2 d) = D.bl b ∧ _
    walk_at "ev"
    cases e : D.tupOf 2 d with
    | false =>
      walk_at "ev"
      have : rowB ms hs.length d = false := by
        cases eb : rowB ms hs.length d with
        | false => rfl
        | true =>
          obtain ⟨p, rfl, _⟩ := (rowB_iff hM).mp eb
          cases e
      rw [this]
    | true =>
      obtain ⟨xs, rfl, hx⟩ := tupOf_yes e
      match xs, hx with
      | [a, b], _ =>
      have hp2 : ∀ x ∈ [a, b], x.plain = true := fun x hx => plains_mem (by simpa [D.plain] using hpl) hx
      walk_at "ev"
      refine e_lcTf rfl ?_
      walk_at "ev"
      refine ⟨D, [a, b], id, fun x => .bl (placeB ms hs.length x), by simp, by simp, fun i x hi => ?_, ?_⟩
      · walk_at "ro"
        walk_at "ev"
        refine ⟨⟨ms, hs, x, rfl, hM, hn, hp2 x (List.mem_of_getElem? hi)⟩, ?_⟩
        rw [show fPlace [D.ins cFrame [Str.ofString "measure", Str.ofString "hues"] [D.tup (dints ms), D.tup (dints hs)], id x] = .bl (placeB ms hs.length x) from fPlace_is cFrame ms hs x]
        exact ⟨rfl, rfl⟩
      refine a_nil (v_allM ?_)
      show D.bl (placeB ms hs.length a && (placeB ms hs.length b && true)) = .bl (placeB ms hs.length a && placeB ms hs.length b)
      rw [Bool.and_true]

theorem ok_is_part {f : Addr} {fd : FuncData} (F : Fun K "is_part" "is_part" s_is_part f fd)
    {f_are_matched : Addr} {fd_are_matched : FuncData} (F_are_matched : Fun K "are_matched" "are_matched" s_are_matched f_are_matched fd_are_matched)
    (G_are_matched : FnOk P w K mg base CX0 2 f_are_matched fd_are_matched ["pairs"] (SpP K preMaD fMaD))
    (g_are_matched : mg "are_matched" = some (.ref f_are_matched))
    {f_is_row : Addr} {fd_is_row : FuncData} (F_is_row : Fun K "is_row" "is_row" s_is_row f_is_row fd_is_row)
    (G_is_row : FnOk P w K mg base CX0 7 f_is_row fd_is_row ["frame", "thing"] (SpP K (prePlace cFrame) fRow))
    (g_is_row : mg "is_row" = some (.ref f_is_row))
    (m_all : mg "all" = none)
    (m_isinstance : mg "isinstance" = none)
    (m_tuple : mg "tuple" = none) :
    FnOk P w K mg base CX0 8 f fd ["frame", "thing"] (SpP K (prePart cFrame) fPart) := by
  refine F.ok sc_is_part (fun vs H Q E h => ?len) (fun cdv A outer s H vs Q E hr h => ⟨_, (pss_cons (ps_if (PW.pt (pw_or (pt_not (pt_val (pe_callB (show CallR _ _ (rIsi K) from call_isi) (by rfl) m_isinstance (by decide +kernel) (pa_cons (pv 1) (pa_cons (pe_bltn (v := .ty "tuple") (by rfl) m_tuple (by decide +kernel) rfl) pa_nil))))) (pw_or1 (pt_not (pt_val (pe_callB (show CallR _ _ (rAll K) from cr_all rfl) (by rfl) m_all (by decide +kernel) (pa_cons (pe_lc (own := [("row", 2)]) (g := gName 2) (tt := tYes) rfl sc_is_part.nd (pi_tup (pv 1)) (blkOk_by (own := [("row", 2)]) (N := ["frame", "thing", "row"]) (sc := defScope s_is_part) (by decide +kernel)) (fun _ _ _ _ _ => (pg_name (i := 2) sc_is_part.nd rfl (by first | exact Or.inl rfl | exact Or.inr rfl))) (fun _ _ _ _ _ => pts_nil) (fun _ _ _ _ _ => (pe_call G_is_row (hr.mono (by decide)) (by rfl) g_is_row F_is_row.kp (bi_is_row F_is_row) .nil pass0 (pa_cons (pv 0) (pa_cons (pv 2) pa_nil))))) pa_nil))))))) (pss_one (ps_ret pe_bl)) pss_nil)
      (pss_one (ps_ret (pe_call G_are_matched (hr.mono (by decide)) (by rfl) g_are_matched F_are_matched.kp (bi_are_matched F_are_matched) .nil pass0 (pa_cons (pv 1) pa_nil))))), ?r⟩)
  case len =>
    obtain ⟨B, ds, _, is, ⟨ms, hs, d, rfl, _⟩, _⟩ := h
    exact is.length
  case r =>
    refine body_P h fun ds hp hl => ?_
    obtain ⟨ms, hs, d, rfl, hM, hn, hpl, hsh⟩ := hp
    have ho : d.own = false := plain_own hpl
    rw [fPart_is]
    walk_at "body"
    walk_at "ev"
    refine ⟨ho, _, rfl, ?_⟩
    cases d with
    | tup xs =>
      have hxl := hsh xs rfl
      have hpx : ∀ x ∈ xs, x.plain = true := fun x hx => plains_mem (by simpa [D.plain] using hpl) hx
      show if (!true) = true then _ else _
      walk_at "ev"
      refine e_lcTf rfl ?_
      walk_at "ev"
      refine ⟨D, xs, id, fun x => .bl (rowB ms hs.length x), by simp, by omega, fun i x hi => ?_, ?_⟩
      · walk_at "ro"
        walk_at "ev"
        refine ⟨⟨ms, hs, x, rfl, hM, by omega, hpx x (List.mem_of_getElem? hi)⟩, ?_⟩
        rw [show fRow [D.ins cFrame [Str.ofString "measure", Str.ofString "hues"] [D.tup (dints ms), D.tup (dints hs)], id x] = .bl (rowB ms hs.length x) from fRow_is cFrame ms hs x]
        exact ⟨rfl, rfl⟩
      refine a_nil (v_allM ?_)
      walk_at "ev"
      cases eb : xs.all (rowB ms hs.length) with
      | false =>
        walk_at "ev"
        rw [cB_false]
        rintro ⟨P, e, hP⟩
        cases e
        rw [(rows_all hM).mpr ⟨P, rfl, hP.row⟩] at eb
        cases eb
      | true =>
        obtain ⟨P, rfl, hP⟩ := (rows_all hM).mp eb
        rw [List.length_map] at hxl
        walk_at "ev"
        refine ⟨rows_pre hM (by omega) hxl hP, ?_⟩
        rw [fMaD_is]
        by_cases hm : Matched (P.map drow)
        · rw [cB_true hm, cB_true (isPart_iff.mpr ((matched_part hP).mp hm))]
        · rw [cB_false hm, cB_false fun z => hm ((matched_part hP).mpr (isPart_iff.mp z))]
    | _ =>
      show if (!false) = true then _ else _
      walk_at "ev"
      rw [cB_false]
      rintro ⟨P, e, _⟩
      cases e

theorem ok__law_right {f : Addr} {fd : FuncData} (F : Fun K "_law_right" "_law_right" s__law_right f fd)
    {f_is_likeness : Addr} {fd_is_likeness : FuncData} (F_is_likeness : Fun K "is_likeness" "is_likeness" s_is_likeness f_is_likeness fd_is_likeness)
    (G_is_likeness : FnOk P w K mg base CX0 5 f_is_likeness fd_is_likeness ["frame", "web", "other", "thing"] (SpP K (preLk cFrame) fLk))
    (g_is_likeness : mg "is_likeness" = some (.ref f_is_likeness))
    {f_part_of : Addr} {fd_part_of : FuncData} (F_part_of : Fun K "part_of" "part_of" s_part_of f_part_of fd_part_of)
    (G_part_of : FnOk P w K mg base CX0 3 f_part_of fd_part_of ["frame", "web", "other", "likeness"] (SpP K (prePo cFrame) fPo))
    (g_part_of : mg "part_of" = some (.ref f_part_of))
    {f_is_part : Addr} {fd_is_part : FuncData} (F_is_part : Fun K "is_part" "is_part" s_is_part f_is_part fd_is_part)
    (G_is_part : FnOk P w K mg base CX0 8 f_is_part fd_is_part ["frame", "thing"] (SpP K (prePart cFrame) fPart))
    (g_is_part : mg "is_part" = some (.ref f_is_part))
    {f__law_tie : Addr} {fd__law_tie : FuncData} (F__law_tie : Fun K "_law_tie" "_law_tie" s__law_tie f__law_tie fd__law_tie)
    (G__law_tie : FnOk P w K mg base CX0 2 f__law_tie fd__law_tie ["_law_scale_here", "_law_here", "_law_there"] (SpP K preLt fLt))
    (g__law_tie : mg "_law_tie" = some (.ref f__law_tie))
    {f__law_from : Addr} {fd__law_from : FuncData} (F__law_from : Fun K "_law_from" "_law_from" s__law_from f__law_from fd__law_from)
    (G__law_from : FnOk P w K mg base CX0 2 f__law_from fd__law_from ["_law_scale_here", "_law_grid_here", "_law_at", "_law_to"] (SpP K preFm fFm))
    (g__law_from : mg "_law_from" = some (.ref f__law_from))
    {f__law_stood : Addr} {fd__law_stood : FuncData} (F__law_stood : Fun K "_law_stood" "_law_stood" s__law_stood f__law_stood fd__law_stood)
    (G__law_stood : FnOk P w K mg base CX0 1 f__law_stood fd__law_stood ["_law_scale_here", "_law_grid_here", "_law_at"] (SpP K preSto fSto))
    (g__law_stood : mg "_law_stood" = some (.ref f__law_stood))
    (m_len : mg "len" = none)
    (m_range : mg "range" = none)
    (m_repr : mg "repr" = none)
    (m_sorted : mg "sorted" = none)
    (m_tuple : mg "tuple" = none) :
    FnG P w K mg base CX0 9 f fd ["_law_scale_here", "_law_ground", "_law_grid_here", "_law_its", "_law_pairs"] (SpP K (preRt22 cFrame) fun _ => .bl true) := by
  refine okG F sc__law_right (fun vs H Q E h => ?len) (fun cdv A outer s H vs Q E hG hr h => ⟨_, (pss_cons (ps_set (i := 5) sc__law_right.nd rfl (by first | exact Or.inl rfl | exact Or.inr rfl) (pe_callB (show CallR _ _ (rRepr K) from call_reprD hG hr) (by rfl) m_repr (by decide +kernel) (pa_cons (pe_tupC (pa_cons (pv 2) (pa_cons (pv 3) (pa_cons (pv 4) pa_nil)))) pa_nil)))
      (pss_cons (ps_set (i := 6) sc__law_right.nd rfl (by first | exact Or.inl rfl | exact Or.inr rfl) (pe_callB (show CallR _ _ (rSortD K) from cr_sortD hr.units) (by rfl) m_sorted (by decide +kernel) (pa_cons (pe_lc (own := [("_law_x", 10), ("_law_y", 11)]) (g := gTup K 2 (gCons (gName 10) (gCons (gName 11) gNil))) (tt := tYes) rfl sc__law_right.nd (pi_tup (pv 4)) (blkOk_by (own := [("_law_x", 10), ("_law_y", 11)]) (N := ["_law_scale_here", "_law_ground", "_law_grid_here", "_law_its", "_law_pairs", "_law_held", "_law_due", "_law_nth", "_law_far", "_law_knots", "_law_x", "_law_y", "_law_side"]) (sc := defScope s__law_right) (by decide +kernel)) (fun _ _ _ _ _ => (pg_tup rfl (pgs_cons (pg_name (i := 10) sc__law_right.nd rfl (by first | exact Or.inl rfl | exact Or.inr rfl)) (pgs_cons (pg_name (i := 11) sc__law_right.nd rfl (by first | exact Or.inl rfl | exact Or.inr rfl)) pgs_nil)))) (fun _ _ _ _ _ => pts_nil) (fun _ _ _ _ _ => (pe_tupC (pa_cons (pe_call G__law_stood (hr.mono (by decide)) (by rfl) g__law_stood F__law_stood.kp (bi__law_stood F__law_stood) .nil pass0 (pa_cons (pv 0) (pa_cons (pv 2) (pa_cons (pv 10) pa_nil)))) (pa_cons (pe_call G__law_stood (hr.mono (by decide)) (by rfl) g__law_stood F__law_stood.kp (bi__law_stood F__law_stood) .nil pass0 (pa_cons (pv 0) (pa_cons (pv 3) (pa_cons (pv 11) pa_nil)))) pa_nil))))) pa_nil)))
      (pss_cons (ps_if (pt_cmpR op_notB (pe_call G_is_likeness (hr.mono (by decide)) (by rfl) g_is_likeness F_is_likeness.kp (bi_is_likeness F_is_likeness) .nil pass0 (pa_cons (pv 1) (pa_cons (pv 2) (pa_cons (pv 3) (pa_cons (pv 4) pa_nil))))) pe_bl (nomark _)) (pss_one (ps_ret pe_bl)) pss_nil)
      (pss_cons (ps_if (pt_cmpR op_ne (pe_callB (show CallR _ _ (rRepr K) from call_reprD hG hr) (by rfl) m_repr (by decide +kernel) (pa_cons (pe_call G_part_of (hr.mono (by decide)) (by rfl) g_part_of F_part_of.kp (bi_part_of F_part_of) .nil pass0 (pa_cons (pv 1) (pa_cons (pv 2) (pa_cons (pv 3) (pa_cons (pv 4) pa_nil))))) pa_nil)) (pe_callB (show CallR _ _ (rRepr K) from call_reprD hG hr) (by rfl) m_repr (by decide +kernel) (pa_cons (pe_callTy (show CallR _ _ (rTupC K) from call_tupC) (by rfl) m_tuple (by decide +kernel) (pa_cons (pv 6) pa_nil)) pa_nil)) (nomark _)) (pss_one (ps_ret pe_bl)) pss_nil)
      (pss_cons (ps_if (pt_cmpR (show OpR _ _ (rNeD K) from op_neD hr.units) (pe_callK0 G_part_of (hr.mono (by decide)) (by rfl) g_part_of F_part_of.kp (kb_part_of_likeness_other_web_frame F_part_of) pass0 (pk_cons (pv 4) (pk_cons (pv 3) (pk_cons (pv 2) (pk_cons (pv 1) pk_nil))))) (pe_callTy (show CallR _ _ (rTupC K) from call_tupC) (by rfl) m_tuple (by decide +kernel) (pa_cons (pv 6) pa_nil)) (nomark _)) (pss_one (ps_ret pe_bl)) pss_nil)
      (pss_cons (ps_if (pt_cmpR op_notB (pe_call G_is_part (hr.mono (by decide)) (by rfl) g_is_part F_is_part.kp (bi_is_part F_is_part) .nil pass0 (pa_cons (pv 1) (pa_cons (pe_callTy (show CallR _ _ (rTupC K) from call_tupC) (by rfl) m_tuple (by decide +kernel) (pa_cons (pv 6) pa_nil)) pa_nil))) pe_bl (nomark _)) (pss_one (ps_ret pe_bl)) pss_nil)
      (pss_cons (ps_for PassesOwn.never rfl (pi_range1 rfl m_range (pa_cons (pe_callB (show CallR _ _ (rLenQ K) from call_len_seq) (by rfl) m_len (by decide +kernel) (pa_cons (pv 6) pa_nil)) pa_nil)) (pg_name (i := 7) sc__law_right.nd rfl (by first | exact Or.inl rfl | exact Or.inr rfl)) (pss_one (ps_for PassesOwn.never rfl (pi_range1 rfl m_range (pa_cons (pv 7) pa_nil)) (pg_name (i := 8) sc__law_right.nd rfl (by first | exact Or.inl rfl | exact Or.inr rfl)) (pss_cons (ps_setLc (i := 9) (own := [("_law_side", 12)]) (g := gName 12) (tt := tYes) rfl sc__law_right.nd rfl rfl (sw_true rfl rfl rfl (by decide +kernel)) (pi_tup (pe_tupC (pa_cons pe_int (pa_cons pe_int pa_nil)))) (blkOk_by (own := [("_law_side", 12)]) (N := ["_law_scale_here", "_law_ground", "_law_grid_here", "_law_its", "_law_pairs", "_law_held", "_law_due", "_law_nth", "_law_far", "_law_knots", "_law_x", "_law_y", "_law_side"]) (sc := defScope s__law_right) (by decide +kernel)) (fun _ _ _ _ _ => (pg_name (i := 12) sc__law_right.nd rfl (by first | exact Or.inl rfl | exact Or.inr rfl))) (fun _ _ _ _ _ => pts_nil) (fun _ _ _ _ _ => (pe_call G__law_tie (hr.mono (by decide)) (by rfl) g__law_tie F__law_tie.kp (bi__law_tie F__law_tie) .nil pass0 (pa_cons (pv 0) (pa_cons (pe_ix (show IxR _ (rIxT K) from ix_tup) (pe_ix (show IxR _ (rIxL K) from ix_list) (pv 6) (pv 7) (fun _ _ => rfl)) (pv 12) (fun _ _ => rfl)) (pa_cons (pe_ix (show IxR _ (rIxT K) from ix_tup) (pe_ix (show IxR _ (rIxL K) from ix_list) (pv 6) (pv 8) (fun _ _ => rfl)) (pv 12) (fun _ _ => rfl)) pa_nil))))))
      (pss_one (ps_if (pt_cmpR (show OpR _ _ (rNeD K) from op_neD hr.units) (pv 9) (pe_op op_rep (pe_lst (pa_cons (pe_call G__law_from (hr.mono (by decide)) (by rfl) g__law_from F__law_from.kp (bi__law_from F__law_from) .nil pass0 (pa_cons (pv 0) (pa_cons (pv 2) (pa_cons (pe_ix (show IxR _ (rIxT K) from ix_tup) (pe_ix (show IxR _ (rIxT K) from ix_tup) (pe_ix (show IxR _ (rIxL K) from ix_list) (pv 6) (pv 7) (fun _ _ => rfl)) pe_int (fun _ _ => rfl)) pe_int (fun _ _ => rfl)) (pa_cons (pe_ix (show IxR _ (rIxT K) from ix_tup) (pe_ix (show IxR _ (rIxT K) from ix_tup) (pe_ix (show IxR _ (rIxL K) from ix_list) (pv 6) (pv 8) (fun _ _ => rfl)) pe_int (fun _ _ => rfl)) pe_int (fun _ _ => rfl)) pa_nil))))) pa_nil)) pe_int) (nomark _)) (pss_one (ps_ret pe_bl)) pss_nil))))))
      (pss_one (ps_ret (pe_cmpR op_eq (pe_callB (show CallR _ _ (rRepr K) from call_reprD hG hr) (by rfl) m_repr (by decide +kernel) (pa_cons (pe_tupC (pa_cons (pv 2) (pa_cons (pv 3) (pa_cons (pv 4) pa_nil)))) pa_nil)) (pv 5) (nomark _))))))))))), ?r⟩)
  case len =>
    obtain ⟨B, ds, _, is, ⟨ms, hs, T, U, P, rfl, _⟩, _⟩ := h
    exact is.length
  case r =>
    refine body_P h fun ds hp hl => ?_
    obtain ⟨ms, hs, T, U, P, rfl, hM, hn, hT, hU, hP⟩ := hp
    have hPl : P.length ≤ 16 := Nat.le_trans (mat_len hP.inr hP.mat) hn
    have hP60 : InR 60 P := fun p hp => by have := hP.inr p hp; omega
    have part := po_part hM hT hU hP.inr hP.mat
    have pl := po_len ms T U P
    have nT := hT.num hM (by omega : hs.length ≤ 16)
    have nU := hU.num hM (by omega : hs.length ≤ 16)
    have nP : Num 2 528 (.tup (P.map dp)) := (Num.tup (dps_num (Nat.le_refl _) hP60)).up (by omega) (by rw [List.length_map]; omega)
    have s3 : Shows (.tup [dtab T, dtab U, .tup (P.map dp)]) := by
      refine Num.shows (k := 4) (w := 48003) ((Num.tup (k := 3) (w := 16000) fun x hx => ?_).up (by omega) (by simp)) (by omega) (by omega)
      simp only [List.mem_cons, List.not_mem_nil, or_false] at hx
      rcases hx with rfl | rfl | rfl
      · exact nT.up (by omega) (by omega)
      · exact nU.up (by omega) (by omega)
      · exact nP.up (by omega) (by omega)
    have nR : Num 5 (3403 * 16) (dpart (poF ms T U P)) := (Num.tup (k := 4) (w := 3402) fun x hx => by
      obtain ⟨r, hr, rfl⟩ := List.mem_map.mp hx
      exact (part.row r hr).num hM (by omega)).up (by omega) (by rw [List.length_map, pl]; omega)
    have sR : Shows (dpart (poF ms T U P)) := nR.shows (by omega) (by omega)
    walk_at "body"
    walk_at "ev"
    refine e_lcT2f (i := 10) (j := 11) rfl rfl (by decide) ?_
    walk_at "ev"
    refine ⟨Nat × Nat, P, fun p => .int p.1, fun p => .int p.2, fun p => drow (stAt ms T p.1, stAt ms U p.2), rfl, by omega, fun c p hc => ?_, ?_⟩
    · have hp := hP.inr p (List.mem_of_getElem? hc)
      walk_at "ro"
      walk_at "ev"
      refine ⟨⟨ms, hs.length, T, p.1, rfl, hM, hn, hT, hp.1⟩, ?_⟩
      rw [fSto_is]
      walk_at "ev"
      refine ⟨⟨ms, hs.length, U, p.2, rfl, hM, hn, hU, hp.2⟩, ?_⟩
      rw [fSto_is]
      walk_at "ev"
      rfl
    rw [show (P.map fun p => drow (stAt ms T p.1, stAt ms U p.2)) = (poF ms T U P).map drow by rw [poF, List.map_map]; rfl]
    walk_at "ev"
    refine v_sortD ?_ (alike_rows _) (sortable_rows _) (by rw [List.length_map, pl]; omega) (fun d hd => ?_) ?_
    · have := plain_part (poF ms T U P)
      rwa [D.plain] at this
    · obtain ⟨r, hr, rfl⟩ := List.mem_map.mp hd
      exact Nat.le_trans ((part.row r hr).num hM (by omega)).deep (by omega)
    rw [sort_rows part.ris]
    walk_at "ev"
    refine ⟨⟨ms, hs, T, U, _, rfl, hM, hn, hT, hU, plains_of fun x hx => ?_, fun xs e => ?_⟩, ?_⟩
    · obtain ⟨p, _, rfl⟩ := List.mem_map.mp hx
      rfl
    · cases e
      rw [List.length_map]; omega
    rw [show fLk [D.ins cFrame [Str.ofString "measure", Str.ofString "hues"] [D.tup (dints ms), D.tup (dints hs)], dtab T, dtab U, .tup (P.map dp)] = .bl (cB (isLike ms hs T U (.tup (P.map dp)))) from fLk_is cFrame ms hs T U _, cB_true (like_iff.mpr ⟨hP.inr, hP.mat, hP.hue, hP.tis⟩)]
    walk_at "ev"
    refine v_notTT ?_
    walk_at "ev"
    have hpo : prePo cFrame [frD cFrame ms hs, dtab T, dtab U, .tup (P.map dp)] := ⟨ms, hs, T, U, P, rfl, hM, hn, hT, hU, hP.inr, by omega⟩
    have epo : fPo [D.ins cFrame [Str.ofString "measure", Str.ofString "hues"] [D.tup (dints ms), D.tup (dints hs)], dtab T, dtab U, .tup (P.map dp)] = dpart (poF ms T U P) := fPo_is cFrame ms hs T U P
    refine ⟨hpo, ?_⟩
    rw [epo]
    walk_at "ev"
    refine e_callPK kd_part_of_likeness_other_web_frame ?_
    walk_at "ev"
    refine ⟨hpo, ?_⟩
    rw [show fPo (kgD_part_of_likeness_other_web_frame [] [.tup (P.map dp), dtab U, dtab T, D.ins cFrame [Str.ofString "measure", Str.ofString "hues"] [D.tup (dints ms), D.tup (dints hs)]]) = dpart (poF ms T U P) from epo]
    walk_at "ev"
    refine v_neDs nR (by omega) ?_
    walk_at "ev"
    refine ⟨⟨ms, hs, _, rfl, hM, hn, plain_part _, fun xs e => ?_⟩, ?_⟩
    · cases e
      rw [List.length_map, pl]; omega
    rw [show fPart [D.ins cFrame [Str.ofString "measure", Str.ofString "hues"] [D.tup (dints ms), D.tup (dints hs)], dpart (poF ms T U P)] = .bl (cB (isPart ms hs.length (dpart (poF ms T U P)))) from fPart_is cFrame ms hs _, cB_true (isPart_iff.mpr part)]
    walk_at "ev"
    refine v_notTT ?_
    walk_at "ev"
    refine s_forRw ?_
    walk_at "ev"
    rw [List.length_map, pl]
    refine ⟨P.length, 0, [7, 8, 9], fun c xs => ∃ x7 x8 x9, xs = [x7, x8, x9], [_, _, _], rfl, by omega, rfl, rfl, ⟨_, _, _, rfl⟩, fun c n1 xs hc hk hx hR => ?_, fun n1 xs hk hx hR => ?_⟩
    · obtain ⟨x7, x8, x9, rfl⟩ := hR
      walk_at "ro"
      refine s_forRw ?_
      walk_at "ev"
      refine ⟨c, 0, [8, 9], fun c xs => ∃ x8 x9, xs = [x8, x9], [_, _], rfl, by omega, rfl, rfl, ⟨_, _, rfl⟩, fun b n2 xs hb hk2 hx2 hR => ?_, fun n2 xs hk2 hx2 hR => ?_⟩
      · obtain ⟨x8', x9', rfl⟩ := hR
        have ec : P[c]? = some P[c] := List.getElem?_eq_getElem hc
        have eb : P[b]? = some P[b] := List.getElem?_eq_getElem (by omega)
        generalize P[c] = p at ec
        generalize P[b] = q at eb
        have hp := hP.inr p (List.mem_of_getElem? ec)
        have hq := hP.inr q (List.mem_of_getElem? eb)
        have hlt : q.1 < p.1 ∧ q.2 ≠ p.2 := by
          obtain ⟨hi1, hi2⟩ := List.getElem?_eq_some_iff.mp ec
          obtain ⟨hj1, hj2⟩ := List.getElem?_eq_some_iff.mp eb
          have := List.pairwise_iff_getElem.mp hP.mat b c hj1 hi1 hb
          rw [hi2, hj2] at this
          exact this
        have ht := hP.tis p (List.mem_of_getElem? ec) q (List.mem_of_getElem? eb) (by omega)
        have rc : ((poF ms T U P).map drow)[c]? = some (.tup [dplace p.1 (stAt ms T p.1).2, dplace p.2 (stAt ms U p.2).2]) := by
          rw [poF, List.map_map, List.getElem?_map, ec, ← stAt_is hM hT hp.1, ← stAt_is hM hU hp.2]; rfl
        have rb : ((poF ms T U P).map drow)[b]? = some (.tup [dplace q.1 (stAt ms T q.1).2, dplace q.2 (stAt ms U q.2).2]) := by
          rw [poF, List.map_map, List.getElem?_map, eb, ← stAt_is hM hT hq.1, ← stAt_is hM hU hq.2]; rfl
        have t1 := st_tie hM hT hp.1 hq.1 (by omega)
        have t2 := st_tie hM hU hp.2 hq.2 (by omega)
        have q1 := (stAt_of hM hT hp.1).2.2
        have q2 := (stAt_of hM hT hq.1).2.2
        have q3 := (stAt_of hM hU hp.2).2.2
        have q4 := (stAt_of hM hU hq.2).2.2
        have wt := webT_tie hM hT hp.1 hq.1 (by omega)
        walk_at "ro"
        walk_at "ev"
        refine e_lcTf rfl ?_
        walk_at "ev"
        refine ⟨Nat, [0, 1], fun i => .int i, fun _ => .tup (dints (webT ms T p.1 q.1)), rfl, by simp, fun i x hi => ?_, ?_⟩
        · match i, hi with
          | 0, hi =>
            cases hi
            walk_at "ro"
            walk_at "ev"
            refine ⟨pLt hM q1 q2, ?_⟩
            rw [fLt_is, t1]
            exact ⟨rfl, rfl⟩
          | 1, hi =>
            cases hi
            walk_at "ro"
            walk_at "ev"
            refine ⟨pLt hM q3 q4, ?_⟩
            rw [fLt_is, t2, ← ht]
            exact ⟨rfl, rfl⟩
        walk_at "ev"
        refine ⟨⟨ms, hs.length, T, p.1, q.1, rfl, hM, hT, hp.1, hq.1, by omega⟩, ?_⟩
        rw [fFm_is]
        walk_at "ev"
        refine v_repL (by omega) (by omega) (by simp) ?_
        walk_at "ev"
        refine v_neDs (a := .lst [.tup (dints (webT ms T p.1 q.1)), .tup (dints (webT ms T p.1 q.1))]) (Num.lst (k := 1) (w := 48) (xs := [.tup (dints (webT ms T p.1 q.1)), .tup (dints (webT ms T p.1 q.1))]) fun x hx => ?_) (by omega) ?_
        · simp only [List.mem_cons, List.not_mem_nil, or_false] at hx
          rcases hx with rfl | rfl <;> exact wt.num hM
        walk_at "ev"
        exact ⟨[_, _], rfl, rfl, _, _, rfl⟩
      · obtain ⟨x8', x9', rfl⟩ := hR
        walk_at "ro"
        exact ⟨by omega, [_, _, _], rfl, rfl, _, _, _, rfl⟩
    · obtain ⟨x7, x8, x9, rfl⟩ := hR
      walk_at "ro"
      walk_at "ev"
      rfl

theorem ok_law {f : Addr} {fd : FuncData} (F : Fun K "law" "law" s_law f fd)
    {f_Frame_init : Addr} {fd_Frame_init : FuncData} (F_Frame_init : Fun K "__init__" "Frame.__init__" s_Frame_init f_Frame_init fd_Frame_init)
    (G_Frame_init : FnOk P w K mg base CX0 5 f_Frame_init fd_Frame_init ["self", "measure", "hues"] (SpI K cFrame "measure" "hues" preFrame))
    {f__law_hand : Addr} {fd__law_hand : FuncData} (F__law_hand : Fun K "_law_hand" "_law_hand" s__law_hand f__law_hand fd__law_hand)
    (G__law_hand : FnOk P w K mg base CX0 1 f__law_hand fd__law_hand ["_law_script", "_law_k"] (SpR K preHand fun _ d => isHand d))
    (g__law_hand : mg "_law_hand" = some (.ref f__law_hand))
    {f__law_take : Addr} {fd__law_take : FuncData} (F__law_take : Fun K "_law_take" "_law_take" s__law_take f__law_take fd__law_take)
    (G__law_take : FnOk P w K mg base CX0 1 f__law_take fd__law_take ["_law_hand_here", "_law_many"] (SpH K preTake psiTake))
    (g__law_take : mg "_law_take" = some (.ref f__law_take))
    {f__law_scale : Addr} {fd__law_scale : FuncData} (F__law_scale : Fun K "_law_scale" "_law_scale" s__law_scale f__law_scale fd__law_scale)
    (G__law_scale : FnOk P w K mg base CX0 3 f__law_scale fd__law_scale ["_law_hand_here"] (SpH K preSc psiSc))
    (g__law_scale : mg "_law_scale" = some (.ref f__law_scale))
    {f__law_colours : Addr} {fd__law_colours : FuncData} (F__law_colours : Fun K "_law_colours" "_law_colours" s__law_colours f__law_colours fd__law_colours)
    (G__law_colours : FnOk P w K mg base CX0 3 f__law_colours fd__law_colours ["_law_hand_here", "_law_most"] (SpH K preCol psiCol))
    (g__law_colours : mg "_law_colours" = some (.ref f__law_colours))
    {f__law_grid : Addr} {fd__law_grid : FuncData} (F__law_grid : Fun K "_law_grid" "_law_grid" s__law_grid f__law_grid fd__law_grid)
    (G__law_grid : FnOk P w K mg base CX0 3 f__law_grid fd__law_grid ["_law_hand_here", "_law_scale_here", "_law_many"] (SpH K preGrid psiGrid))
    (g__law_grid : mg "_law_grid" = some (.ref f__law_grid))
    {f__law_leads : Addr} {fd__law_leads : FuncData} (F__law_leads : Fun K "_law_leads" "_law_leads" s__law_leads f__law_leads fd__law_leads)
    (G__law_leads : FnOk P w K mg base CX0 3 f__law_leads fd__law_leads ["_law_hand_here", "_law_hues"] (SpH K preLd psiLd))
    (g__law_leads : mg "_law_leads" = some (.ref f__law_leads))
    {f__law_called : Addr} {fd__law_called : FuncData} (F__law_called : Fun K "_law_called" "_law_called" s__law_called f__law_called fd__law_called)
    (G__law_called : FnOk P w K mg base CX0 3 f__law_called fd__law_called ["_law_scale_here", "_law_grid_here", "_law_leads_here"] (SpP K preCd fCd))
    (g__law_called : mg "_law_called" = some (.ref f__law_called))
    {f__law_right : Addr} {fd__law_right : FuncData} (F__law_right : Fun K "_law_right" "_law_right" s__law_right f__law_right fd__law_right)
    (G__law_right : FnG P w K mg base CX0 9 f__law_right fd__law_right ["_law_scale_here", "_law_ground", "_law_grid_here", "_law_its", "_law_pairs"] (SpP K (preRt22 cFrame) fun _ => .bl true))
    (g__law_right : mg "_law_right" = some (.ref f__law_right))
    (M_Frame : Mk K cFrame f_Frame_init) (g_Frame : mg "Frame" = some (.ref cFrame))
    (m_len : mg "len" = none)
    (m_max : mg "max" = none)
    (m_min : mg "min" = none)
    (m_range : mg "range" = none)
    (m_tuple : mg "tuple" = none) :
    FnG P w K mg base CX0 10 f fd ["_law_script"] (SpP K preLaw0 fun _ => .bl true) := by
  refine okG F sc_law (fun vs H Q E h => ?len) (fun cdv A outer s H vs Q E hG hr h => ⟨_, (pss_cons (ps_for PassesOwn.never rfl (pi_range1 rfl m_range (pa_cons (pe_callB (call_max2 rfl) (by rfl) m_max (by decide +kernel) (pa_cons pe_int (pa_cons (pe_callB (call_min2 rfl) (by rfl) m_min (by decide +kernel) (pa_cons pe_int (pa_cons (pe_callB (show CallR _ _ (rLenQ K) from call_len_seq) (by rfl) m_len (by decide +kernel) (pa_cons (pv 0) pa_nil)) pa_nil))) pa_nil))) pa_nil)) (pg_name (i := 1) sc_law.nd rfl (by first | exact Or.inl rfl | exact Or.inr rfl)) (pss_cons (ps_set (i := 2) sc_law.nd rfl (by first | exact Or.inl rfl | exact Or.inr rfl) (pe_call G__law_hand (hr.mono (by decide)) (by rfl) g__law_hand F__law_hand.kp (bi__law_hand F__law_hand) .nil pass0 (pa_cons (pv 0) (pa_cons (pv 1) pa_nil))))
      (pss_cons (ps_par (i := 5) (j := 6) rfl sc_law.nd rfl rfl (by decide) rfl rfl (pa_cons (pe_call G__law_scale (hr.mono (by decide)) (by rfl) g__law_scale F__law_scale.kp (bi__law_scale F__law_scale) .nil pass0 (pa_cons (pv 2) pa_nil)) (pa_cons (pe_call G__law_colours (hr.mono (by decide)) (by rfl) g__law_colours F__law_colours.kp (bi__law_colours F__law_colours) .nil pass0 (pa_cons (pv 2) (pa_cons pe_int pa_nil))) pa_nil)) (by rfl))
      (pss_cons (ps_asg (pe_tupC (pa_cons (pe_make M_Frame G_Frame_init (hr.mono (by decide)) (by rfl) g_Frame (bi_Frame_init F_Frame_init) .nil pass0 (pa_cons (pv 5) (pa_cons (pv 6) pa_nil))) (pa_cons (pe_call G__law_grid (hr.mono (by decide)) (by rfl) g__law_grid F__law_grid.kp (bi__law_grid F__law_grid) .nil pass0 (pa_cons (pv 2) (pa_cons (pv 5) (pa_cons (pe_callB (show CallR _ _ (rLenQ K) from call_len_seq) (by rfl) m_len (by decide +kernel) (pa_cons (pv 6) pa_nil)) pa_nil)))) (pa_cons (pe_call G__law_leads (hr.mono (by decide)) (by rfl) g__law_leads F__law_leads.kp (bi__law_leads F__law_leads) .nil pass0 (pa_cons (pv 2) (pa_cons (pv 6) pa_nil))) pa_nil)))) (pg_tup rfl (pgs_cons (pg_name (i := 7) sc_law.nd rfl (by first | exact Or.inl rfl | exact Or.inr rfl)) (pgs_cons (pg_name (i := 8) sc_law.nd rfl (by first | exact Or.inl rfl | exact Or.inr rfl)) (pgs_cons (pg_name (i := 9) sc_law.nd rfl (by first | exact Or.inl rfl | exact Or.inr rfl)) pgs_nil)))))
      (pss_cons (ps_par (i := 10) (j := 11) rfl sc_law.nd rfl rfl (by decide) rfl rfl (pa_cons (pe_call G__law_called (hr.mono (by decide)) (by rfl) g__law_called F__law_called.kp (bi__law_called F__law_called) .nil pass0 (pa_cons (pv 5) (pa_cons (pv 8) (pa_cons (pv 9) pa_nil)))) (pa_cons (pe_callTy (show CallR _ _ (rTupC K) from call_tupC) (by rfl) m_tuple (by decide +kernel) (pa_cons (pe_lc (own := [("_law_at", 13)]) (g := gName 13) (tt := tYes) rfl sc_law.nd (pi_range1 rfl m_range (pa_cons (pe_callB (show CallR _ _ (rLenQ K) from call_len_seq) (by rfl) m_len (by decide +kernel) (pa_cons (pv 6) pa_nil)) pa_nil)) (blkOk_by (own := [("_law_at", 13)]) (N := ["_law_script", "_law_k", "_law_hand_here", "_law_some", "_law_pairs", "_law_scale_here", "_law_colours_here", "_law_ground", "_law_grid_here", "_law_leads_here", "_law_its", "_law_full", "_law_pair", "_law_at", "_law_x", "_law_y"]) (sc := defScope s_law) (by decide +kernel)) (fun _ _ _ _ _ => (pg_name (i := 13) sc_law.nd rfl (by first | exact Or.inl rfl | exact Or.inr rfl))) (fun _ _ _ _ _ => pts_nil) (fun _ _ _ _ _ => (pe_tupC (pa_cons (pv 13) (pa_cons (pe_ix (show IxR _ (rIxT K) from ix_tup) (pv 9) (pv 13) (fun _ _ => rfl)) pa_nil))))) pa_nil)) pa_nil)) (by rfl))
      (pss_cons (ps_set (i := 3) sc_law.nd rfl (by first | exact Or.inl rfl | exact Or.inr rfl) (pe_callTy (show CallR _ _ (rTupC K) from call_tupC) (by rfl) m_tuple (by decide +kernel) (pa_cons (pe_lc (own := [("_law_pair", 12)]) (g := gName 12) rfl sc_law.nd (pi_tup (pv 11)) (blkOk_by (own := [("_law_pair", 12)]) (N := ["_law_script", "_law_k", "_law_hand_here", "_law_some", "_law_pairs", "_law_scale_here", "_law_colours_here", "_law_ground", "_law_grid_here", "_law_leads_here", "_law_its", "_law_full", "_law_pair", "_law_at", "_law_x", "_law_y"]) (sc := defScope s_law) (by decide +kernel)) (fun _ _ _ _ _ => (pg_name (i := 12) sc_law.nd rfl (by first | exact Or.inl rfl | exact Or.inr rfl))) (fun _ _ _ _ _ => (pts_one (pt_cmpR op_eq (pe_call G__law_take (hr.mono (by decide)) (by rfl) g__law_take F__law_take.kp (bi__law_take F__law_take) .nil pass0 (pa_cons (pv 2) (pa_cons pe_int pa_nil))) pe_int (nomark _)))) (fun _ _ _ _ _ => (pv 12))) pa_nil)))
      (pss_cons (ps_for PassesOwn.never rfl (pi_tup (pe_tupC (pa_cons (pv 11) (pa_cons (pv 3) (pa_cons (pe_tupC pa_nil) (pa_cons (pe_slice (show SlR _ (rSlC K) from sl_tupC) (pv 11) (po_some (pe_un un_neg pe_int)) po_none) pa_nil)))))) (pg_name (i := 4) sc_law.nd rfl (by first | exact Or.inl rfl | exact Or.inr rfl)) (pss_one (ps_if (pt_not (pt_val (pe_callG G__law_right hG (hr.mono (by decide)) (by rfl) g__law_right F__law_right.kp (bi__law_right F__law_right) .nil pass0 (pa_cons (pv 5) (pa_cons (pv 7) (pa_cons (pv 8) (pa_cons (pv 10) (pa_cons (pv 4) pa_nil)))))))) (pss_one (ps_ret pe_bl)) pss_nil)))
      (pss_one (ps_if (pt_not (pt_val (pe_callG G__law_right hG (hr.mono (by decide)) (by rfl) g__law_right F__law_right.kp (bi__law_right F__law_right) .nil pass0 (pa_cons (pv 5) (pa_cons (pv 7) (pa_cons (pv 8) (pa_cons (pv 8) (pa_cons (pe_callTy (show CallR _ _ (rTupC K) from call_tupC) (by rfl) m_tuple (by decide +kernel) (pa_cons (pe_lc (own := [("_law_x", 14), ("_law_y", 15)]) (g := gTup K 2 (gCons (gName 14) (gCons (gName 15) gNil))) (tt := tYes) rfl sc_law.nd (pi_tup (pv 3)) (blkOk_by (own := [("_law_x", 14), ("_law_y", 15)]) (N := ["_law_script", "_law_k", "_law_hand_here", "_law_some", "_law_pairs", "_law_scale_here", "_law_colours_here", "_law_ground", "_law_grid_here", "_law_leads_here", "_law_its", "_law_full", "_law_pair", "_law_at", "_law_x", "_law_y"]) (sc := defScope s_law) (by decide +kernel)) (fun _ _ _ _ _ => (pg_tup rfl (pgs_cons (pg_name (i := 14) sc_law.nd rfl (by first | exact Or.inl rfl | exact Or.inr rfl)) (pgs_cons (pg_name (i := 15) sc_law.nd rfl (by first | exact Or.inl rfl | exact Or.inr rfl)) pgs_nil)))) (fun _ _ _ _ _ => pts_nil) (fun _ _ _ _ _ => (pe_tupC (pa_cons (pv 14) (pa_cons (pv 14) pa_nil))))) pa_nil)) pa_nil)))))))) (pss_one (ps_ret pe_bl)) pss_nil)))))))))
      (pss_one (ps_ret pe_bl))), ?r⟩)
  case len =>
    obtain ⟨B, ds, _, is, ⟨d, rfl⟩, _⟩ := h
    exact is.length
  case r =>
    refine body_P h fun ds hp hl => ?_
    obtain ⟨ns, rfl⟩ := hp
    walk_at "body"
    refine s_seq (s_forR ?_)
    walk_at "ev"
    refine ⟨?_, ?_, fun t _ ρ' => ∃ (xs : List (Option Sl)), xs.length = 9 ∧ (xs.all fun s => !Sl.isHand s) = true ∧ ∃ x1, Sl.isHand x1 = false ∧
      ρ' = some (.dat (.scr ns)) :: x1 :: none :: (xs ++ [none, none, none, none]), ?_, ?_, ?_⟩
    · split <;> split <;> omega
    · split <;> split <;> omega
    · exact ⟨List.replicate 9 none, rfl, rfl, none, rfl, rfl⟩
    · intro t n1 ρ' ht hI
      obtain ⟨xs, hxl, hxa, x1, h1, rfl⟩ := hI
      match xs, hxl with
      | [y3, y4, y5, y6, y7, y8, y9, y10, y11], _ =>
      simp only [List.all_cons, List.all_nil, Bool.and_eq_true, Bool.not_eq_true'] at hxa
      obtain ⟨_, g4, _⟩ := hxa
      have ht3 : t < 3 := by
        revert ht
        split <;> split <;> omega
      refine s_newHand (j := 0) (c := 1) rfl rfl ⟨ns, _, rfl, by omega, by omega⟩ (by simp) fun a => ?_
      walk_at "ro"
      walk_at "ev"
      refine g_scale (by omega) fun m1 ms q1 hMQ => ?_
      have hM := hMQ.1
      walk_at "ev"
      refine g_col (by omega) (by omega) (by omega) fun m2 hs q2 hH hl2 => ?_
      have h16 := hH.2.1
      have h2 := hH.1
      walk_at "ev"
      refine s_unp3 ?_
      walk_at "ev"
      refine ⟨⟨ms, hs, rfl, hMQ, hH⟩, ?_⟩
      walk_at "ev"
      rw [dints_length]
      refine g_grid (by omega) hM (by omega) fun m3 T q3 hT => ?_
      walk_at "ev"
      refine g_leads (by omega) (by omega) fun m4 L q4 hL => ?_
      have hLl := hL.len
      walk_at "ev"
      refine ⟨_, _, _, rfl, ?_⟩
      walk_at "ro"
      walk_at "ev"
      refine ⟨⟨ms, hs, T, L, rfl, hM, h16, hT, hL⟩, ?_⟩
      rw [fCd_is]
      have hC := cd_tab hM hT hL
      have hF := full_like hM hT hL
      walk_at "ev"
      refine e_lcRf rfl ?_
      walk_at "ev"
      rw [dints_length, ← hLl]
      refine ⟨L.length, fun i => dp (i, L.getD i 0), rfl, by omega, fun i hi => ?_, ?_⟩
      · obtain ⟨c, hc, hc2⟩ := hL.at (b := i) (by omega)
        have hc' := dnats_get hc
        walk_at "ro"
        walk_at "ev"
        show D.tup [.int (i : Int), .int (c : Int)] = D.tup [.int (i : Int), .int (L.getD i 0 : Nat)]
        rw [natD_of hc]
      rw [show ((List.range L.length).map fun i => dp (i, L.getD i 0)) = (fullP L).map dp by rw [fullP, List.map_map]; rfl]
      have hFl : (fullP L).length = L.length := by rw [fullP, List.length_map, List.length_range]
      generalize fullP L = F at hF hFl
      walk_at "ev"
      refine e_lcTx rfl ?_
      walk_at "ev"
      refine ⟨by rw [List.length_map]; omega, fun c n acc => n ≤ m4 + c ∧ ∃ G, acc = G.map dp ∧ G.Sublist (F.take c), ⟨by omega, [], rfl, List.nil_sublist _⟩, fun c n acc d hd hI => ?_, fun n acc hI => ?_⟩
      · obtain ⟨hn3, G, rfl, hG⟩ := hI
        obtain ⟨p, hp, rfl⟩ := map_get hd
        have hcl := (List.getElem?_eq_some_iff.mp hp).1
        have et : F.take (c + 1) = F.take c ++ [p] := by rw [List.take_succ, hp]; rfl
        walk_at "ro"
        walk_at "ev"
        refine g_take (by omega) (by decide) (by decide) fun m5 r q5 hr => ?_
        walk_at "ev"
        by_cases h0 : (r : Int) = 0
        · rw [decide_eq_true h0]
          walk_at "ev"
          exact ⟨by omega, G ++ [p], by rw [List.map_append]; rfl, by rw [et]; exact hG.append (List.Sublist.refl _)⟩
        · rw [decide_eq_false h0]
          walk_at "ev"
          exact ⟨by omega, G, rfl, by rw [et]; exact hG.trans (List.sublist_append_left _ _)⟩
      obtain ⟨hn3, G, rfl, hG⟩ := hI
      rw [List.length_map] at hn3 hG
      rw [List.take_length] at hG
      walk_at "ev"
      refine s_forTw ?_
      walk_at "ev"
      obtain ⟨G1, hG1, eG1⟩ := List.sublist_map_iff.mp (cut_sub (F.map dp) (some (-1)) none)
      have hl : ∀ G : List (Nat × Nat), G.Sublist F → preRt22 cFrame [.tup (dints ms), frD cFrame ms hs, dtab T, dtab (cdT ms T L), .tup (G.map dp)] :=
        fun G h => ⟨ms, hs, T, cdT ms T L, G, rfl, hM, h16, hT, hC, hF.sub h⟩
      refine ⟨0, [4], fun i xs => ∃ x4, xs = [x4] ∧ Sl.isHand x4 = false, [_], rfl, rfl, ⟨_, rfl, g4⟩, fun i n2 d xs hd hn2 hx hR => ?_, fun n2 xs hn2 hx hR => ?_⟩
      · obtain ⟨x4, rfl, f4⟩ := hR
        have hd : ∃ G : List (Nat × Nat), d = .tup (G.map dp) ∧ G.Sublist F := by
          have hd := List.mem_of_getElem? hd
          simp only [List.mem_cons, List.not_mem_nil, or_false] at hd
          rcases hd with rfl | rfl | rfl | rfl
          · exact ⟨F, rfl, List.Sublist.refl _⟩
          · exact ⟨G, rfl, hG⟩
          · exact ⟨[], rfl, List.nil_sublist _⟩
          · exact ⟨G1, congrArg D.tup eG1, hG1⟩
        obtain ⟨G2, rfl, hG2⟩ := hd
        walk_at "ro"
        walk_at "ev"
        refine ⟨hl G2 hG2, ?_⟩
        walk_at "ev"
        exact ⟨[_], rfl, rfl, _, rfl, rfl⟩
      · obtain ⟨x4, rfl, f4⟩ := hR
        walk_at "ro"
        walk_at "ev"
        refine e_lcT2f (i := 14) (j := 15) rfl rfl (by decide) ?_
        walk_at "ev"
        refine ⟨Nat × Nat, G, fun p => .int p.1, fun p => .int p.2, fun p => dp (p.1, p.1), rfl, ?_, fun c p hc => ?_, ?_⟩
        · have := hG.length_le
          omega
        · walk_at "ro"
          walk_at "ev"
          rfl
        rw [show (G.map fun p => dp (p.1, p.1)) = (G.map fun p => (p.1, p.1)).map dp by rw [List.map_map]; rfl]
        walk_at "ev"
        refine ⟨⟨ms, hs, T, T, _, rfl, hM, h16, hT, hT, (hF.sub hG).self⟩, ?_⟩
        walk_at "ev"
        refine ⟨?_, [_, _, _, _, _, _, _, _, _], rfl, ?_, _, ?_, rfl⟩
        · simp only [List.set_cons_succ, List.set_cons_zero, List.all_cons, List.all_nil, f4]
          rfl
        · simp only [List.all_cons, List.all_nil, f4]
          rfl
        · rfl
    · intro n1 ρ' hI
      exact s_ret (e_bl rfl)
end
theorem all_mk {l : PySem.W.OpenLaw} {w : World} {K : PySem.W.Frag} {h : Heap}
    {mg : Str → Option Value} {fa : Addr} (X : K.In h) (G : h.Ns mainGlobals mg)
    (hfa : mg "law" = some (.ref fa))
    {cFrame : Addr} (p0 : PySem.W.nsIn K mainGlobals "Frame" = some (some (.ref cFrame)))
    (q0g : PySem.W.plainGet K cFrame Str.empty = true)
    (q0h : PySem.W.hasDictIn K cFrame = true)
    (q0o : PySem.W.plainOver K cFrame = true)
    (q0s : PySem.W.findIn K (.ref cFrame) "__setattr__" = some (some (.builtin "object.__setattr__")))
    (q0m : PySem.W.makesIn K cFrame = true)
    (q0k : PySem.W.keepIn K (.ref cFrame) = true)
    (q0x : PySem.W.findIn K (.ref cFrame) "measure" = some none)
    (q0y : PySem.W.findIn K (.ref cFrame) "hues" = some none)
    {f0 : Addr} {od0 an0 : Option Addr} {sl0 : Array (Option Value)} {oc0 kV0 dc0 pm0 cd0 ct0 : Value}
    (a0 : PySem.W.nsIn K mainGlobals "is_whole" = some (some (.ref f0)))
    (l0 : K.lookup f0 = some ⟨oc0, od0, .func (PySem.W.fnOf "is_whole" "is_whole" (defArgs s_is_whole) (defBody s_is_whole) (defScope s_is_whole) .none kV0 dc0 pm0 an0 cd0 ct0), sl0⟩)
    (c0 : PySem.W.codeIn K cd0 "is_whole" = true) (k0 : PySem.W.keepIn K (.ref f0) = true)
    {f1 : Addr} {od1 an1 : Option Addr} {sl1 : Array (Option Value)} {oc1 kV1 dc1 pm1 cd1 ct1 : Value}
    (a1 : PySem.W.nsIn K mainGlobals "is_within" = some (some (.ref f1)))
    (l1 : K.lookup f1 = some ⟨oc1, od1, .func (PySem.W.fnOf "is_within" "is_within" (defArgs s_is_within) (defBody s_is_within) (defScope s_is_within) .none kV1 dc1 pm1 an1 cd1 ct1), sl1⟩)
    (c1 : PySem.W.codeIn K cd1 "is_within" = true) (k1 : PySem.W.keepIn K (.ref f1) = true)
    {f2 : Addr} {od2 an2 : Option Addr} {sl2 : Array (Option Value)} {oc2 kV2 dc2 pm2 cd2 ct2 : Value}
    (a2 : PySem.W.nsIn K mainGlobals "is_below" = some (some (.ref f2)))
    (l2 : K.lookup f2 = some ⟨oc2, od2, .func (PySem.W.fnOf "is_below" "is_below" (defArgs s_is_below) (defBody s_is_below) (defScope s_is_below) .none kV2 dc2 pm2 an2 cd2 ct2), sl2⟩)
    (c2 : PySem.W.codeIn K cd2 "is_below" = true) (k2 : PySem.W.keepIn K (.ref f2) = true)
    {f3 : Addr} {od3 an3 : Option Addr} {sl3 : Array (Option Value)} {oc3 kV3 dc3 pm3 cd3 ct3 : Value}
    (a3 : PySem.W.nsIn K mainGlobals "is_tuple_of" = some (some (.ref f3)))
    (l3 : K.lookup f3 = some ⟨oc3, od3, .func (PySem.W.fnOf "is_tuple_of" "is_tuple_of" (defArgs s_is_tuple_of) (defBody s_is_tuple_of) (defScope s_is_tuple_of) .none kV3 dc3 pm3 an3 cd3 ct3), sl3⟩)
    (c3 : PySem.W.codeIn K cd3 "is_tuple_of" = true) (k3 : PySem.W.keepIn K (.ref f3) = true)
    {f4 : Addr} {od4 an4 : Option Addr} {sl4 : Array (Option Value)} {oc4 kV4 dc4 pm4 cd4 ct4 : Value}
    (a4 : PySem.W.nsIn K mainGlobals "product" = some (some (.ref f4)))
    (l4 : K.lookup f4 = some ⟨oc4, od4, .func (PySem.W.fnOf "product" "product" (defArgs s_product) (defBody s_product) (defScope s_product) .none kV4 dc4 pm4 an4 cd4 ct4), sl4⟩)
    (c4 : PySem.W.codeIn K cd4 "product" = true) (k4 : PySem.W.keepIn K (.ref f4) = true)
    {f5 : Addr} {od5 an5 : Option Addr} {sl5 : Array (Option Value)} {oc5 kV5 dc5 pm5 cd5 ct5 : Value}
    (a5 : PySem.W.nsIn K mainGlobals "are_unlike" = some (some (.ref f5)))
    (l5 : K.lookup f5 = some ⟨oc5, od5, .func (PySem.W.fnOf "are_unlike" "are_unlike" (defArgs s_are_unlike) (defBody s_are_unlike) (defScope s_are_unlike) .none kV5 dc5 pm5 an5 cd5 ct5), sl5⟩)
    (c5 : PySem.W.codeIn K cd5 "are_unlike" = true) (k5 : PySem.W.keepIn K (.ref f5) = true)
    {f6 : Addr} {od6 an6 : Option Addr} {sl6 : Array (Option Value)} {oc6 kV6 dc6 pm6 cd6 ct6 : Value}
    (a6 : PySem.W.nsIn K mainGlobals "are_matched" = some (some (.ref f6)))
    (l6 : K.lookup f6 = some ⟨oc6, od6, .func (PySem.W.fnOf "are_matched" "are_matched" (defArgs s_are_matched) (defBody s_are_matched) (defScope s_are_matched) .none kV6 dc6 pm6 an6 cd6 ct6), sl6⟩)
    (c6 : PySem.W.codeIn K cd6 "are_matched" = true) (k6 : PySem.W.keepIn K (.ref f6) = true)
    {f7 : Addr} {od7 an7 : Option Addr} {sl7 : Array (Option Value)} {oc7 kV7 dc7 pm7 cd7 ct7 : Value}
    (a7 : PySem.W.nsIn K mainGlobals "is_measure" = some (some (.ref f7)))
    (l7 : K.lookup f7 = some ⟨oc7, od7, .func (PySem.W.fnOf "is_measure" "is_measure" (defArgs s_is_measure) (defBody s_is_measure) (defScope s_is_measure) .none kV7 dc7 pm7 an7 cd7 ct7), sl7⟩)
    (c7 : PySem.W.codeIn K cd7 "is_measure" = true) (k7 : PySem.W.keepIn K (.ref f7) = true)
    {f8 : Addr} {od8 an8 : Option Addr} {sl8 : Array (Option Value)} {oc8 kV8 dc8 pm8 cd8 ct8 : Value}
    (a8 : PySem.W.nsIn K mainGlobals "is_tie" = some (some (.ref f8)))
    (l8 : K.lookup f8 = some ⟨oc8, od8, .func (PySem.W.fnOf "is_tie" "is_tie" (defArgs s_is_tie) (defBody s_is_tie) (defScope s_is_tie) .none kV8 dc8 pm8 an8 cd8 ct8), sl8⟩)
    (c8 : PySem.W.codeIn K cd8 "is_tie" = true) (k8 : PySem.W.keepIn K (.ref f8) = true)
    {f9 : Addr} {od9 an9 : Option Addr} {sl9 : Array (Option Value)} {oc9 kV9 dc9 pm9 cd9 ct9 : Value}
    (a9 : PySem.W.nsIn K mainGlobals "are_ties" = some (some (.ref f9)))
    (l9 : K.lookup f9 = some ⟨oc9, od9, .func (PySem.W.fnOf "are_ties" "are_ties" (defArgs s_are_ties) (defBody s_are_ties) (defScope s_are_ties) .none kV9 dc9 pm9 an9 cd9 ct9), sl9⟩)
    (c9 : PySem.W.codeIn K cd9 "are_ties" = true) (k9 : PySem.W.keepIn K (.ref f9) = true)
    {f10 : Addr} {od10 an10 : Option Addr} {sl10 : Array (Option Value)} {oc10 kV10 dc10 pm10 cd10 ct10 : Value}
    (a10 : PySem.W.nsIn K mainGlobals "nought" = some (some (.ref f10)))
    (l10 : K.lookup f10 = some ⟨oc10, od10, .func (PySem.W.fnOf "nought" "nought" (defArgs s_nought) (defBody s_nought) (defScope s_nought) .none kV10 dc10 pm10 an10 cd10 ct10), sl10⟩)
    (c10 : PySem.W.codeIn K cd10 "nought" = true) (k10 : PySem.W.keepIn K (.ref f10) = true)
    {f11 : Addr} {od11 an11 : Option Addr} {sl11 : Array (Option Value)} {oc11 kV11 dc11 pm11 cd11 ct11 : Value}
    (a11 : PySem.W.nsIn K mainGlobals "tie_less" = some (some (.ref f11)))
    (l11 : K.lookup f11 = some ⟨oc11, od11, .func (PySem.W.fnOf "tie_less" "tie_less" (defArgs s_tie_less) (defBody s_tie_less) (defScope s_tie_less) .none kV11 dc11 pm11 an11 cd11 ct11), sl11⟩)
    (c11 : PySem.W.codeIn K cd11 "tie_less" = true) (k11 : PySem.W.keepIn K (.ref f11) = true)
    {f12 : Addr} {od12 an12 : Option Addr} {sl12 : Array (Option Value)} {oc12 kV12 dc12 pm12 cd12 ct12 : Value}
    (a12 : PySem.W.nsIn K mainGlobals "is_place" = some (some (.ref f12)))
    (l12 : K.lookup f12 = some ⟨oc12, od12, .func (PySem.W.fnOf "is_place" "is_place" (defArgs s_is_place) (defBody s_is_place) (defScope s_is_place) .none kV12 dc12 pm12 an12 cd12 ct12), sl12⟩)
    (c12 : PySem.W.codeIn K cd12 "is_place" = true) (k12 : PySem.W.keepIn K (.ref f12) = true)
    {f13 : Addr} {od13 an13 : Option Addr} {sl13 : Array (Option Value)} {oc13 kV13 dc13 pm13 cd13 ct13 : Value}
    (a13 : PySem.W.nsIn K mainGlobals "standing" = some (some (.ref f13)))
    (l13 : K.lookup f13 = some ⟨oc13, od13, .func (PySem.W.fnOf "standing" "standing" (defArgs s_standing) (defBody s_standing) (defScope s_standing) .none kV13 dc13 pm13 an13 cd13 ct13), sl13⟩)
    (c13 : PySem.W.codeIn K cd13 "standing" = true) (k13 : PySem.W.keepIn K (.ref f13) = true)
    {f14 : Addr} {od14 an14 : Option Addr} {sl14 : Array (Option Value)} {oc14 kV14 dc14 pm14 cd14 ct14 : Value}
    (a14 : PySem.W.nsIn K mainGlobals "table_tie" = some (some (.ref f14)))
    (l14 : K.lookup f14 = some ⟨oc14, od14, .func (PySem.W.fnOf "table_tie" "table_tie" (defArgs s_table_tie) (defBody s_table_tie) (defScope s_table_tie) .none kV14 dc14 pm14 an14 cd14 ct14), sl14⟩)
    (c14 : PySem.W.codeIn K cd14 "table_tie" = true) (k14 : PySem.W.keepIn K (.ref f14) = true)
    {f15 : Addr} {od15 an15 : Option Addr} {sl15 : Array (Option Value)} {oc15 kV15 dc15 pm15 cd15 ct15 : Value}
    (a15 : PySem.W.nsIn K mainGlobals "web_tie" = some (some (.ref f15)))
    (l15 : K.lookup f15 = some ⟨oc15, od15, .func (PySem.W.fnOf "web_tie" "web_tie" (defArgs s_web_tie) (defBody s_web_tie) (defScope s_web_tie) .none kV15 dc15 pm15 an15 cd15 ct15), sl15⟩)
    (c15 : PySem.W.codeIn K cd15 "web_tie" = true) (k15 : PySem.W.keepIn K (.ref f15) = true)
    {f16 : Addr} {od16 an16 : Option Addr} {sl16 : Array (Option Value)} {oc16 kV16 dc16 pm16 cd16 ct16 : Value}
    (a16 : PySem.W.nsIn K mainGlobals "is_likeness" = some (some (.ref f16)))
    (l16 : K.lookup f16 = some ⟨oc16, od16, .func (PySem.W.fnOf "is_likeness" "is_likeness" (defArgs s_is_likeness) (defBody s_is_likeness) (defScope s_is_likeness) .none kV16 dc16 pm16 an16 cd16 ct16), sl16⟩)
    (c16 : PySem.W.codeIn K cd16 "is_likeness" = true) (k16 : PySem.W.keepIn K (.ref f16) = true)
    {f17 : Addr} {od17 an17 : Option Addr} {sl17 : Array (Option Value)} {oc17 kV17 dc17 pm17 cd17 ct17 : Value}
    (a17 : PySem.W.nsIn K mainGlobals "is_stem_pair" = some (some (.ref f17)))
    (l17 : K.lookup f17 = some ⟨oc17, od17, .func (PySem.W.fnOf "is_stem_pair" "is_stem_pair" (defArgs s_is_stem_pair) (defBody s_is_stem_pair) (defScope s_is_stem_pair) .none kV17 dc17 pm17 an17 cd17 ct17), sl17⟩)
    (c17 : PySem.W.codeIn K cd17 "is_stem_pair" = true) (k17 : PySem.W.keepIn K (.ref f17) = true)
    {f18 : Addr} {od18 an18 : Option Addr} {sl18 : Array (Option Value)} {oc18 kV18 dc18 pm18 cd18 ct18 : Value}
    (a18 : PySem.W.nsIn K mainGlobals "keeps_hues" = some (some (.ref f18)))
    (l18 : K.lookup f18 = some ⟨oc18, od18, .func (PySem.W.fnOf "keeps_hues" "keeps_hues" (defArgs s_keeps_hues) (defBody s_keeps_hues) (defScope s_keeps_hues) .none kV18 dc18 pm18 an18 cd18 ct18), sl18⟩)
    (c18 : PySem.W.codeIn K cd18 "keeps_hues" = true) (k18 : PySem.W.keepIn K (.ref f18) = true)
    {f19 : Addr} {od19 an19 : Option Addr} {sl19 : Array (Option Value)} {oc19 kV19 dc19 pm19 cd19 ct19 : Value}
    (a19 : PySem.W.nsIn K mainGlobals "keeps_ties" = some (some (.ref f19)))
    (l19 : K.lookup f19 = some ⟨oc19, od19, .func (PySem.W.fnOf "keeps_ties" "keeps_ties" (defArgs s_keeps_ties) (defBody s_keeps_ties) (defScope s_keeps_ties) .none kV19 dc19 pm19 an19 cd19 ct19), sl19⟩)
    (c19 : PySem.W.codeIn K cd19 "keeps_ties" = true) (k19 : PySem.W.keepIn K (.ref f19) = true)
    {f20 : Addr} {od20 an20 : Option Addr} {sl20 : Array (Option Value)} {oc20 kV20 dc20 pm20 cd20 ct20 : Value}
    (a20 : PySem.W.nsIn K mainGlobals "part_of" = some (some (.ref f20)))
    (l20 : K.lookup f20 = some ⟨oc20, od20, .func (PySem.W.fnOf "part_of" "part_of" (defArgs s_part_of) (defBody s_part_of) (defScope s_part_of) .none kV20 dc20 pm20 an20 cd20 ct20), sl20⟩)
    (c20 : PySem.W.codeIn K cd20 "part_of" = true) (k20 : PySem.W.keepIn K (.ref f20) = true)
    {f21 : Addr} {od21 an21 : Option Addr} {sl21 : Array (Option Value)} {oc21 kV21 dc21 pm21 cd21 ct21 : Value}
    (a21 : PySem.W.findIn K (.ref cFrame) "__init__" = some (some (.ref f21))) (b21 : PySem.W.isFn K (.ref f21) = true)
    (l21 : K.lookup f21 = some ⟨oc21, od21, .func (PySem.W.fnOf "__init__" "Frame.__init__" (defArgs s_Frame_init) (defBody s_Frame_init) (defScope s_Frame_init) .none kV21 dc21 pm21 an21 cd21 ct21), sl21⟩)
    (c21 : PySem.W.codeIn K cd21 "Frame.__init__" = true) (k21 : PySem.W.keepIn K (.ref f21) = true)
    {f22 : Addr} {od22 an22 : Option Addr} {sl22 : Array (Option Value)} {oc22 kV22 dc22 pm22 cd22 ct22 : Value}
    (a22 : PySem.W.findIn K (.ref cFrame) "stem_count" = some (some (.ref f22))) (b22 : PySem.W.isFn K (.ref f22) = true)
    (l22 : K.lookup f22 = some ⟨oc22, od22, .func (PySem.W.fnOf "stem_count" "Frame.stem_count" (defArgs s_Frame_stem_count) (defBody s_Frame_stem_count) (defScope s_Frame_stem_count) .none kV22 dc22 pm22 an22 cd22 ct22), sl22⟩)
    (c22 : PySem.W.codeIn K cd22 "Frame.stem_count" = true) (k22 : PySem.W.keepIn K (.ref f22) = true)
    {f23 : Addr} {od23 an23 : Option Addr} {sl23 : Array (Option Value)} {oc23 kV23 dc23 pm23 cd23 ct23 : Value}
    (a23 : PySem.W.nsIn K mainGlobals "are_hues" = some (some (.ref f23)))
    (l23 : K.lookup f23 = some ⟨oc23, od23, .func (PySem.W.fnOf "are_hues" "are_hues" (defArgs s_are_hues) (defBody s_are_hues) (defScope s_are_hues) .none kV23 dc23 pm23 an23 cd23 ct23), sl23⟩)
    (c23 : PySem.W.codeIn K cd23 "are_hues" = true) (k23 : PySem.W.keepIn K (.ref f23) = true)
    {f24 : Addr} {od24 an24 : Option Addr} {sl24 : Array (Option Value)} {oc24 kV24 dc24 pm24 cd24 ct24 : Value}
    (a24 : PySem.W.nsIn K mainGlobals "is_hue" = some (some (.ref f24)))
    (l24 : K.lookup f24 = some ⟨oc24, od24, .func (PySem.W.fnOf "is_hue" "is_hue" (defArgs s_is_hue) (defBody s_is_hue) (defScope s_is_hue) .none kV24 dc24 pm24 an24 cd24 ct24), sl24⟩)
    (c24 : PySem.W.codeIn K cd24 "is_hue" = true) (k24 : PySem.W.keepIn K (.ref f24) = true)
    {f25 : Addr} {od25 an25 : Option Addr} {sl25 : Array (Option Value)} {oc25 kV25 dc25 pm25 cd25 ct25 : Value}
    (a25 : PySem.W.nsIn K mainGlobals "is_part" = some (some (.ref f25)))
    (l25 : K.lookup f25 = some ⟨oc25, od25, .func (PySem.W.fnOf "is_part" "is_part" (defArgs s_is_part) (defBody s_is_part) (defScope s_is_part) .none kV25 dc25 pm25 an25 cd25 ct25), sl25⟩)
    (c25 : PySem.W.codeIn K cd25 "is_part" = true) (k25 : PySem.W.keepIn K (.ref f25) = true)
    {f26 : Addr} {od26 an26 : Option Addr} {sl26 : Array (Option Value)} {oc26 kV26 dc26 pm26 cd26 ct26 : Value}
    (a26 : PySem.W.nsIn K mainGlobals "is_row" = some (some (.ref f26)))
    (l26 : K.lookup f26 = some ⟨oc26, od26, .func (PySem.W.fnOf "is_row" "is_row" (defArgs s_is_row) (defBody s_is_row) (defScope s_is_row) .none kV26 dc26 pm26 an26 cd26 ct26), sl26⟩)
    (c26 : PySem.W.codeIn K cd26 "is_row" = true) (k26 : PySem.W.keepIn K (.ref f26) = true)
    {f27 : Addr} {od27 an27 : Option Addr} {sl27 : Array (Option Value)} {oc27 kV27 dc27 pm27 cd27 ct27 : Value}
    (a27 : PySem.W.nsIn K mainGlobals "_law_hand" = some (some (.ref f27)))
    (l27 : K.lookup f27 = some ⟨oc27, od27, .func (PySem.W.fnOf "_law_hand" "_law_hand" (defArgs s__law_hand) (defBody s__law_hand) (defScope s__law_hand) .none kV27 dc27 pm27 an27 cd27 ct27), sl27⟩)
    (c27 : PySem.W.codeIn K cd27 "_law_hand" = true) (k27 : PySem.W.keepIn K (.ref f27) = true)
    {f28 : Addr} {od28 an28 : Option Addr} {sl28 : Array (Option Value)} {oc28 kV28 dc28 pm28 cd28 ct28 : Value}
    (a28 : PySem.W.nsIn K mainGlobals "_law_take" = some (some (.ref f28)))
    (l28 : K.lookup f28 = some ⟨oc28, od28, .func (PySem.W.fnOf "_law_take" "_law_take" (defArgs s__law_take) (defBody s__law_take) (defScope s__law_take) .none kV28 dc28 pm28 an28 cd28 ct28), sl28⟩)
    (c28 : PySem.W.codeIn K cd28 "_law_take" = true) (k28 : PySem.W.keepIn K (.ref f28) = true)
    {f29 : Addr} {od29 an29 : Option Addr} {sl29 : Array (Option Value)} {oc29 kV29 dc29 pm29 cd29 ct29 : Value}
    (a29 : PySem.W.nsIn K mainGlobals "_law_of" = some (some (.ref f29)))
    (l29 : K.lookup f29 = some ⟨oc29, od29, .func (PySem.W.fnOf "_law_of" "_law_of" (defArgs s__law_of) (defBody s__law_of) (defScope s__law_of) .none kV29 dc29 pm29 an29 cd29 ct29), sl29⟩)
    (c29 : PySem.W.codeIn K cd29 "_law_of" = true) (k29 : PySem.W.keepIn K (.ref f29) = true)
    {f30 : Addr} {od30 an30 : Option Addr} {sl30 : Array (Option Value)} {oc30 kV30 dc30 pm30 cd30 ct30 : Value}
    (a30 : PySem.W.nsIn K mainGlobals "_law_mixed" = some (some (.ref f30)))
    (l30 : K.lookup f30 = some ⟨oc30, od30, .func (PySem.W.fnOf "_law_mixed" "_law_mixed" (defArgs s__law_mixed) (defBody s__law_mixed) (defScope s__law_mixed) .none kV30 dc30 pm30 an30 cd30 ct30), sl30⟩)
    (c30 : PySem.W.codeIn K cd30 "_law_mixed" = true) (k30 : PySem.W.keepIn K (.ref f30) = true)
    {f31 : Addr} {od31 an31 : Option Addr} {sl31 : Array (Option Value)} {oc31 kV31 dc31 pm31 cd31 ct31 : Value}
    (a31 : PySem.W.nsIn K mainGlobals "_law_scale" = some (some (.ref f31)))
    (l31 : K.lookup f31 = some ⟨oc31, od31, .func (PySem.W.fnOf "_law_scale" "_law_scale" (defArgs s__law_scale) (defBody s__law_scale) (defScope s__law_scale) .none kV31 dc31 pm31 an31 cd31 ct31), sl31⟩)
    (c31 : PySem.W.codeIn K cd31 "_law_scale" = true) (k31 : PySem.W.keepIn K (.ref f31) = true)
    {f32 : Addr} {od32 an32 : Option Addr} {sl32 : Array (Option Value)} {oc32 kV32 dc32 pm32 cd32 ct32 : Value}
    (a32 : PySem.W.nsIn K mainGlobals "_law_colours" = some (some (.ref f32)))
    (l32 : K.lookup f32 = some ⟨oc32, od32, .func (PySem.W.fnOf "_law_colours" "_law_colours" (defArgs s__law_colours) (defBody s__law_colours) (defScope s__law_colours) .none kV32 dc32 pm32 an32 cd32 ct32), sl32⟩)
    (c32 : PySem.W.codeIn K cd32 "_law_colours" = true) (k32 : PySem.W.keepIn K (.ref f32) = true)
    {f33 : Addr} {od33 an33 : Option Addr} {sl33 : Array (Option Value)} {oc33 kV33 dc33 pm33 cd33 ct33 : Value}
    (a33 : PySem.W.nsIn K mainGlobals "_law_knot" = some (some (.ref f33)))
    (l33 : K.lookup f33 = some ⟨oc33, od33, .func (PySem.W.fnOf "_law_knot" "_law_knot" (defArgs s__law_knot) (defBody s__law_knot) (defScope s__law_knot) .none kV33 dc33 pm33 an33 cd33 ct33), sl33⟩)
    (c33 : PySem.W.codeIn K cd33 "_law_knot" = true) (k33 : PySem.W.keepIn K (.ref f33) = true)
    {f34 : Addr} {od34 an34 : Option Addr} {sl34 : Array (Option Value)} {oc34 kV34 dc34 pm34 cd34 ct34 : Value}
    (a34 : PySem.W.nsIn K mainGlobals "_law_grid" = some (some (.ref f34)))
    (l34 : K.lookup f34 = some ⟨oc34, od34, .func (PySem.W.fnOf "_law_grid" "_law_grid" (defArgs s__law_grid) (defBody s__law_grid) (defScope s__law_grid) .none kV34 dc34 pm34 an34 cd34 ct34), sl34⟩)
    (c34 : PySem.W.codeIn K cd34 "_law_grid" = true) (k34 : PySem.W.keepIn K (.ref f34) = true)
    {f35 : Addr} {od35 an35 : Option Addr} {sl35 : Array (Option Value)} {oc35 kV35 dc35 pm35 cd35 ct35 : Value}
    (a35 : PySem.W.nsIn K mainGlobals "_law_leads" = some (some (.ref f35)))
    (l35 : K.lookup f35 = some ⟨oc35, od35, .func (PySem.W.fnOf "_law_leads" "_law_leads" (defArgs s__law_leads) (defBody s__law_leads) (defScope s__law_leads) .none kV35 dc35 pm35 an35 cd35 ct35), sl35⟩)
    (c35 : PySem.W.codeIn K cd35 "_law_leads" = true) (k35 : PySem.W.keepIn K (.ref f35) = true)
    {f36 : Addr} {od36 an36 : Option Addr} {sl36 : Array (Option Value)} {oc36 kV36 dc36 pm36 cd36 ct36 : Value}
    (a36 : PySem.W.nsIn K mainGlobals "_law_less" = some (some (.ref f36)))
    (l36 : K.lookup f36 = some ⟨oc36, od36, .func (PySem.W.fnOf "_law_less" "_law_less" (defArgs s__law_less) (defBody s__law_less) (defScope s__law_less) .none kV36 dc36 pm36 an36 cd36 ct36), sl36⟩)
    (c36 : PySem.W.codeIn K cd36 "_law_less" = true) (k36 : PySem.W.keepIn K (.ref f36) = true)
    {f37 : Addr} {od37 an37 : Option Addr} {sl37 : Array (Option Value)} {oc37 kV37 dc37 pm37 cd37 ct37 : Value}
    (a37 : PySem.W.nsIn K mainGlobals "_law_tie" = some (some (.ref f37)))
    (l37 : K.lookup f37 = some ⟨oc37, od37, .func (PySem.W.fnOf "_law_tie" "_law_tie" (defArgs s__law_tie) (defBody s__law_tie) (defScope s__law_tie) .none kV37 dc37 pm37 an37 cd37 ct37), sl37⟩)
    (c37 : PySem.W.codeIn K cd37 "_law_tie" = true) (k37 : PySem.W.keepIn K (.ref f37) = true)
    {f38 : Addr} {od38 an38 : Option Addr} {sl38 : Array (Option Value)} {oc38 kV38 dc38 pm38 cd38 ct38 : Value}
    (a38 : PySem.W.nsIn K mainGlobals "_law_from" = some (some (.ref f38)))
    (l38 : K.lookup f38 = some ⟨oc38, od38, .func (PySem.W.fnOf "_law_from" "_law_from" (defArgs s__law_from) (defBody s__law_from) (defScope s__law_from) .none kV38 dc38 pm38 an38 cd38 ct38), sl38⟩)
    (c38 : PySem.W.codeIn K cd38 "_law_from" = true) (k38 : PySem.W.keepIn K (.ref f38) = true)
    {f39 : Addr} {od39 an39 : Option Addr} {sl39 : Array (Option Value)} {oc39 kV39 dc39 pm39 cd39 ct39 : Value}
    (a39 : PySem.W.nsIn K mainGlobals "_law_called" = some (some (.ref f39)))
    (l39 : K.lookup f39 = some ⟨oc39, od39, .func (PySem.W.fnOf "_law_called" "_law_called" (defArgs s__law_called) (defBody s__law_called) (defScope s__law_called) .none kV39 dc39 pm39 an39 cd39 ct39), sl39⟩)
    (c39 : PySem.W.codeIn K cd39 "_law_called" = true) (k39 : PySem.W.keepIn K (.ref f39) = true)
    {f40 : Addr} {od40 an40 : Option Addr} {sl40 : Array (Option Value)} {oc40 kV40 dc40 pm40 cd40 ct40 : Value}
    (a40 : PySem.W.nsIn K mainGlobals "_law_stood" = some (some (.ref f40)))
    (l40 : K.lookup f40 = some ⟨oc40, od40, .func (PySem.W.fnOf "_law_stood" "_law_stood" (defArgs s__law_stood) (defBody s__law_stood) (defScope s__law_stood) .none kV40 dc40 pm40 an40 cd40 ct40), sl40⟩)
    (c40 : PySem.W.codeIn K cd40 "_law_stood" = true) (k40 : PySem.W.keepIn K (.ref f40) = true)
    {f41 : Addr} {od41 an41 : Option Addr} {sl41 : Array (Option Value)} {oc41 kV41 dc41 pm41 cd41 ct41 : Value}
    (a41 : PySem.W.nsIn K mainGlobals "_law_right" = some (some (.ref f41)))
    (l41 : K.lookup f41 = some ⟨oc41, od41, .func (PySem.W.fnOf "_law_right" "_law_right" (defArgs s__law_right) (defBody s__law_right) (defScope s__law_right) .none kV41 dc41 pm41 an41 cd41 ct41), sl41⟩)
    (c41 : PySem.W.codeIn K cd41 "_law_right" = true) (k41 : PySem.W.keepIn K (.ref f41) = true)
    {f42 : Addr} {od42 an42 : Option Addr} {sl42 : Array (Option Value)} {oc42 kV42 dc42 pm42 cd42 ct42 : Value}
    (a42 : PySem.W.nsIn K mainGlobals "law" = some (some (.ref f42)))
    (l42 : K.lookup f42 = some ⟨oc42, od42, .func (PySem.W.fnOf "law" "law" (defArgs s_law) (defBody s_law) (defScope s_law) .none kV42 dc42 pm42 an42 cd42 ct42), sl42⟩)
    (c42 : PySem.W.codeIn K cd42 "law" = true) (k42 : PySem.W.keepIn K (.ref f42) = true)
    {t0 : Tok} (v0 : PySem.W.nsIn K mainGlobals "LEAST_NUMBER" = some (some (.int 2 t0)))
    {t1 : Tok} (v1 : PySem.W.nsIn K mainGlobals "LEAST_STEMS" = some (some (.int 2 t1)))
    {t2 : Tok} (v2 : PySem.W.nsIn K mainGlobals "MOST_HUE" = some (some (.int 9 t2)))
    {t3 : Tok} (v3 : PySem.W.nsIn K mainGlobals "MOST_NUMBER" = some (some (.int 5 t3)))
    {t4 : Tok} (v4 : PySem.W.nsIn K mainGlobals "MOST_NUMBERS" = some (some (.int 3 t4)))
    {t5 : Tok} (v5 : PySem.W.nsIn K mainGlobals "MOST_STEMS" = some (some (.int 16 t5)))
    {t6 : Tok} (v6 : PySem.W.nsIn K mainGlobals "MOST_TIES" = some (some (.int 30 t6)))
    (z0 : PySem.W.nsIn K mainGlobals "abs" = some none)
    (z1 : PySem.W.nsIn K mainGlobals "all" = some none)
    (z2 : PySem.W.nsIn K mainGlobals "bool" = some none)
    (z3 : PySem.W.nsIn K mainGlobals "dict" = some none)
    (z4 : PySem.W.nsIn K mainGlobals "enumerate" = some none)
    (z5 : PySem.W.nsIn K mainGlobals "int" = some none)
    (z6 : PySem.W.nsIn K mainGlobals "isinstance" = some none)
    (z7 : PySem.W.nsIn K mainGlobals "len" = some none)
    (z8 : PySem.W.nsIn K mainGlobals "list" = some none)
    (z9 : PySem.W.nsIn K mainGlobals "max" = some none)
    (z10 : PySem.W.nsIn K mainGlobals "min" = some none)
    (z11 : PySem.W.nsIn K mainGlobals "range" = some none)
    (z12 : PySem.W.nsIn K mainGlobals "repr" = some none)
    (z13 : PySem.W.nsIn K mainGlobals "set" = some none)
    (z14 : PySem.W.nsIn K mainGlobals "sorted" = some none)
    (z15 : PySem.W.nsIn K mainGlobals "tuple" = some none)
    (z16 : PySem.W.nsIn K mainGlobals "zip" = some none)
    : ∃ fd : FuncData, (∀ (s : Shared) (v : Value), BindsTo s fd ⟨[v], []⟩ [("_law_script", v)]) ∧
      ∀ base : Heap, K.In base → base.Ns mainGlobals mg → FnG l.prog w K mg base CX0 10 fa fd ["_law_script"] (SpP K preLaw0 fun _ => .bl true) := by
  have F_is_whole := fun_mk (st := s_is_whole) l0 c0 k0
  have g_is_whole := PySem.W.mg_of X G a0
  have F_is_within := fun_mk (st := s_is_within) l1 c1 k1
  have g_is_within := PySem.W.mg_of X G a1
  have F_is_below := fun_mk (st := s_is_below) l2 c2 k2
  have g_is_below := PySem.W.mg_of X G a2
  have F_is_tuple_of := fun_mk (st := s_is_tuple_of) l3 c3 k3
  have g_is_tuple_of := PySem.W.mg_of X G a3
  have F_product := fun_mk (st := s_product) l4 c4 k4
  have g_product := PySem.W.mg_of X G a4
  have F_are_unlike := fun_mk (st := s_are_unlike) l5 c5 k5
  have g_are_unlike := PySem.W.mg_of X G a5
  have F_are_matched := fun_mk (st := s_are_matched) l6 c6 k6
  have g_are_matched := PySem.W.mg_of X G a6
  have F_is_measure := fun_mk (st := s_is_measure) l7 c7 k7
  have g_is_measure := PySem.W.mg_of X G a7
  have F_is_tie := fun_mk (st := s_is_tie) l8 c8 k8
  have g_is_tie := PySem.W.mg_of X G a8
  have F_are_ties := fun_mk (st := s_are_ties) l9 c9 k9
  have g_are_ties := PySem.W.mg_of X G a9
  have F_nought := fun_mk (st := s_nought) l10 c10 k10
  have g_nought := PySem.W.mg_of X G a10
  have F_tie_less := fun_mk (st := s_tie_less) l11 c11 k11
  have g_tie_less := PySem.W.mg_of X G a11
  have F_is_place := fun_mk (st := s_is_place) l12 c12 k12
  have g_is_place := PySem.W.mg_of X G a12
  have F_standing := fun_mk (st := s_standing) l13 c13 k13
  have g_standing := PySem.W.mg_of X G a13
  have F_table_tie := fun_mk (st := s_table_tie) l14 c14 k14
  have g_table_tie := PySem.W.mg_of X G a14
  have F_web_tie := fun_mk (st := s_web_tie) l15 c15 k15
  have g_web_tie := PySem.W.mg_of X G a15
  have F_is_likeness := fun_mk (st := s_is_likeness) l16 c16 k16
  have g_is_likeness := PySem.W.mg_of X G a16
  have F_is_stem_pair := fun_mk (st := s_is_stem_pair) l17 c17 k17
  have g_is_stem_pair := PySem.W.mg_of X G a17
  have F_keeps_hues := fun_mk (st := s_keeps_hues) l18 c18 k18
  have g_keeps_hues := PySem.W.mg_of X G a18
  have F_keeps_ties := fun_mk (st := s_keeps_ties) l19 c19 k19
  have g_keeps_ties := PySem.W.mg_of X G a19
  have F_part_of := fun_mk (st := s_part_of) l20 c20 k20
  have g_part_of := PySem.W.mg_of X G a20
  have F_Frame_init := fun_mk (st := s_Frame_init) l21 c21 k21
  have M_Frame : Mk K cFrame f21 := ⟨q0m, a21, b21, q0k⟩
  have F_Frame_stem_count := fun_mk (st := s_Frame_stem_count) l22 c22 k22
  have e_Frame_stem_count : Meth K cFrame "stem_count" f22 := ⟨a22, b22, k22⟩
  have F_are_hues := fun_mk (st := s_are_hues) l23 c23 k23
  have g_are_hues := PySem.W.mg_of X G a23
  have F_is_hue := fun_mk (st := s_is_hue) l24 c24 k24
  have g_is_hue := PySem.W.mg_of X G a24
  have F_is_part := fun_mk (st := s_is_part) l25 c25 k25
  have g_is_part := PySem.W.mg_of X G a25
  have F_is_row := fun_mk (st := s_is_row) l26 c26 k26
  have g_is_row := PySem.W.mg_of X G a26
  have F__law_hand := fun_mk (st := s__law_hand) l27 c27 k27
  have g__law_hand := PySem.W.mg_of X G a27
  have F__law_take := fun_mk (st := s__law_take) l28 c28 k28
  have g__law_take := PySem.W.mg_of X G a28
  have F__law_of := fun_mk (st := s__law_of) l29 c29 k29
  have g__law_of := PySem.W.mg_of X G a29
  have F__law_mixed := fun_mk (st := s__law_mixed) l30 c30 k30
  have g__law_mixed := PySem.W.mg_of X G a30
  have F__law_scale := fun_mk (st := s__law_scale) l31 c31 k31
  have g__law_scale := PySem.W.mg_of X G a31
  have F__law_colours := fun_mk (st := s__law_colours) l32 c32 k32
  have g__law_colours := PySem.W.mg_of X G a32
  have F__law_knot := fun_mk (st := s__law_knot) l33 c33 k33
  have g__law_knot := PySem.W.mg_of X G a33
  have F__law_grid := fun_mk (st := s__law_grid) l34 c34 k34
  have g__law_grid := PySem.W.mg_of X G a34
  have F__law_leads := fun_mk (st := s__law_leads) l35 c35 k35
  have g__law_leads := PySem.W.mg_of X G a35
  have F__law_less := fun_mk (st := s__law_less) l36 c36 k36
  have g__law_less := PySem.W.mg_of X G a36
  have F__law_tie := fun_mk (st := s__law_tie) l37 c37 k37
  have g__law_tie := PySem.W.mg_of X G a37
  have F__law_from := fun_mk (st := s__law_from) l38 c38 k38
  have g__law_from := PySem.W.mg_of X G a38
  have F__law_called := fun_mk (st := s__law_called) l39 c39 k39
  have g__law_called := PySem.W.mg_of X G a39
  have F__law_stood := fun_mk (st := s__law_stood) l40 c40 k40
  have g__law_stood := PySem.W.mg_of X G a40
  have F__law_right := fun_mk (st := s__law_right) l41 c41 k41
  have g__law_right := PySem.W.mg_of X G a41
  have F_law := fun_mk (st := s_law) l42 c42 k42
  have g_law := PySem.W.mg_of X G a42
  have g_Frame := PySem.W.mg_of X G p0
  have k_Frame : Own2 K cFrame "measure" "hues" := ⟨⟨q0g, q0h, q0o, q0s⟩, q0x, q0y⟩
  have c_LEAST_NUMBER := PySem.W.mg_of X G v0
  have c_LEAST_STEMS := PySem.W.mg_of X G v1
  have c_MOST_HUE := PySem.W.mg_of X G v2
  have c_MOST_NUMBER := PySem.W.mg_of X G v3
  have c_MOST_NUMBERS := PySem.W.mg_of X G v4
  have c_MOST_STEMS := PySem.W.mg_of X G v5
  have c_MOST_TIES := PySem.W.mg_of X G v6
  have m_abs := PySem.W.mg_none_of X G z0
  have m_all := PySem.W.mg_none_of X G z1
  have m_bool := PySem.W.mg_none_of X G z2
  have m_dict := PySem.W.mg_none_of X G z3
  have m_enumerate := PySem.W.mg_none_of X G z4
  have m_int := PySem.W.mg_none_of X G z5
  have m_isinstance := PySem.W.mg_none_of X G z6
  have m_len := PySem.W.mg_none_of X G z7
  have m_list := PySem.W.mg_none_of X G z8
  have m_max := PySem.W.mg_none_of X G z9
  have m_min := PySem.W.mg_none_of X G z10
  have m_range := PySem.W.mg_none_of X G z11
  have m_repr := PySem.W.mg_none_of X G z12
  have m_set := PySem.W.mg_none_of X G z13
  have m_sorted := PySem.W.mg_none_of X G z14
  have m_tuple := PySem.W.mg_none_of X G z15
  have m_zip := PySem.W.mg_none_of X G z16
  have e := hfa.symm.trans g_law
  cases e
  refine ⟨PySem.W.fnOf "law" "law" (defArgs s_law) (defBody s_law) (defScope s_law) .none kV42 dc42 pm42 an42 cd42 ct42, fun s v => .of_eq rfl, fun base _ _ => ?_⟩
  have G_is_whole := ok_is_whole (P := l.prog) (w := w) (mg := mg) (base := base) F_is_whole m_bool m_int m_isinstance
  have G_is_tuple_of := ok_is_tuple_of (P := l.prog) (w := w) (mg := mg) (base := base) F_is_tuple_of m_isinstance m_len m_tuple
  have G_product := ok_product (P := l.prog) (w := w) (mg := mg) (base := base) F_product
  have G_are_unlike := ok_are_unlike (P := l.prog) (w := w) (mg := mg) (base := base) F_are_unlike m_len m_set
  have G_nought := ok_nought (P := l.prog) (w := w) (mg := mg) (base := base) F_nought m_len
  have G_tie_less := ok_tie_less (P := l.prog) (w := w) (mg := mg) (base := base) F_tie_less m_tuple m_zip
  have G_table_tie := ok_table_tie (P := l.prog) (w := w) (mg := mg) (base := base) F_table_tie m_max m_min
  have G_keeps_hues := ok_keeps_hues (P := l.prog) (w := w) (mg := mg) (base := base) F_keeps_hues k_Frame m_all
  have G_Frame_stem_count := ok_Frame_stem_count (P := l.prog) (w := w) (mg := mg) (base := base) F_Frame_stem_count k_Frame m_len
  have G__law_hand := ok__law_hand (P := l.prog) (w := w) (mg := mg) (base := base) F__law_hand m_abs m_int m_len
  have G__law_take := ok__law_take (P := l.prog) (w := w) (mg := mg) (base := base) F__law_take
  have G__law_less := ok__law_less (P := l.prog) (w := w) (mg := mg) (base := base) F__law_less m_tuple m_zip
  have G__law_stood := ok__law_stood (P := l.prog) (w := w) (mg := mg) (base := base) F__law_stood m_len m_range m_tuple
  have G_is_within := ok_is_within (P := l.prog) (w := w) (mg := mg) (base := base) F_is_within F_is_whole G_is_whole g_is_whole
  have G_are_matched := ok_are_matched (P := l.prog) (w := w) (mg := mg) (base := base) F_are_matched F_are_unlike G_are_unlike g_are_unlike m_list m_sorted
  have G_standing := ok_standing (P := l.prog) (w := w) (mg := mg) (base := base) F_standing F_nought G_nought g_nought F_Frame_stem_count G_Frame_stem_count k_Frame e_Frame_stem_count m_enumerate m_tuple
  have G_web_tie := ok_web_tie (P := l.prog) (w := w) (mg := mg) (base := base) F_web_tie F_nought G_nought g_nought F_tie_less G_tie_less g_tie_less F_table_tie G_table_tie g_table_tie k_Frame
  have G__law_of := ok__law_of (P := l.prog) (w := w) (mg := mg) (base := base) F__law_of F__law_take G__law_take g__law_take m_len
  have G__law_mixed := ok__law_mixed (P := l.prog) (w := w) (mg := mg) (base := base) F__law_mixed F__law_take G__law_take g__law_take m_len m_list
  have G__law_knot := ok__law_knot (P := l.prog) (w := w) (mg := mg) (base := base) F__law_knot F__law_take G__law_take g__law_take m_tuple
  have G__law_tie := ok__law_tie (P := l.prog) (w := w) (mg := mg) (base := base) F__law_tie F__law_less G__law_less g__law_less
  have G__law_from := ok__law_from (P := l.prog) (w := w) (mg := mg) (base := base) F__law_from F__law_less G__law_less g__law_less m_len
  have G_is_below := ok_is_below (P := l.prog) (w := w) (mg := mg) (base := base) F_is_below F_is_within G_is_within g_is_within
  have G_is_measure := ok_is_measure (P := l.prog) (w := w) (mg := mg) (base := base) F_is_measure F_is_within G_is_within g_is_within F_product G_product g_product c_LEAST_NUMBER c_MOST_NUMBER c_MOST_NUMBERS c_MOST_TIES m_all m_isinstance m_len m_tuple
  have G_keeps_ties := ok_keeps_ties (P := l.prog) (w := w) (mg := mg) (base := base) F_keeps_ties F_web_tie G_web_tie g_web_tie m_all
  have G_part_of := ok_part_of (P := l.prog) (w := w) (mg := mg) (base := base) F_part_of F_standing G_standing g_standing m_tuple
  have G_is_hue := ok_is_hue (P := l.prog) (w := w) (mg := mg) (base := base) F_is_hue F_is_within G_is_within g_is_within c_MOST_HUE
  have G__law_scale := ok__law_scale (P := l.prog) (w := w) (mg := mg) (base := base) F__law_scale F__law_of G__law_of g__law_of
  have G__law_colours := ok__law_colours (P := l.prog) (w := w) (mg := mg) (base := base) F__law_colours F__law_take G__law_take g__law_take F__law_of G__law_of g__law_of m_range m_tuple
  have G__law_grid := ok__law_grid (P := l.prog) (w := w) (mg := mg) (base := base) F__law_grid F__law_take G__law_take g__law_take F__law_knot G__law_knot g__law_knot m_len m_range m_tuple
  have G__law_leads := ok__law_leads (P := l.prog) (w := w) (mg := mg) (base := base) F__law_leads F__law_mixed G__law_mixed g__law_mixed m_dict m_len m_range m_tuple
  have G__law_called := ok__law_called (P := l.prog) (w := w) (mg := mg) (base := base) F__law_called F__law_from G__law_from g__law_from m_len m_range m_tuple
  have G_is_tie := ok_is_tie (P := l.prog) (w := w) (mg := mg) (base := base) F_is_tie F_is_below G_is_below g_is_below F_is_tuple_of G_is_tuple_of g_is_tuple_of m_all m_len m_zip
  have G_is_stem_pair := ok_is_stem_pair (P := l.prog) (w := w) (mg := mg) (base := base) F_is_stem_pair F_is_below G_is_below g_is_below F_is_tuple_of G_is_tuple_of g_is_tuple_of F_Frame_stem_count G_Frame_stem_count k_Frame e_Frame_stem_count m_all
  have G_are_hues := ok_are_hues (P := l.prog) (w := w) (mg := mg) (base := base) F_are_hues F_is_within G_is_within g_is_within F_is_hue G_is_hue g_is_hue c_LEAST_STEMS c_MOST_STEMS m_all m_isinstance m_len m_tuple
  have G_are_ties := ok_are_ties (P := l.prog) (w := w) (mg := mg) (base := base) F_are_ties F_is_tuple_of G_is_tuple_of g_is_tuple_of F_is_tie G_is_tie g_is_tie m_all
  have G_is_likeness := ok_is_likeness (P := l.prog) (w := w) (mg := mg) (base := base) F_is_likeness F_are_matched G_are_matched g_are_matched F_is_stem_pair G_is_stem_pair g_is_stem_pair F_keeps_hues G_keeps_hues g_keeps_hues F_keeps_ties G_keeps_ties g_keeps_ties m_all m_isinstance m_tuple
  have G_Frame_init := ok_Frame_init (P := l.prog) (w := w) (mg := mg) (base := base) F_Frame_init F_is_measure G_is_measure g_is_measure F_are_hues G_are_hues g_are_hues k_Frame
  have G_is_place := ok_is_place (P := l.prog) (w := w) (mg := mg) (base := base) F_is_place F_is_below G_is_below g_is_below F_is_tuple_of G_is_tuple_of g_is_tuple_of F_are_ties G_are_ties g_are_ties F_nought G_nought g_nought F_Frame_stem_count G_Frame_stem_count k_Frame e_Frame_stem_count
  have G_is_row := ok_is_row (P := l.prog) (w := w) (mg := mg) (base := base) F_is_row F_is_tuple_of G_is_tuple_of g_is_tuple_of F_is_place G_is_place g_is_place m_all
  have G_is_part := ok_is_part (P := l.prog) (w := w) (mg := mg) (base := base) F_is_part F_are_matched G_are_matched g_are_matched F_is_row G_is_row g_is_row m_all m_isinstance m_tuple
  have G__law_right := ok__law_right (P := l.prog) (w := w) (mg := mg) (base := base) F__law_right F_is_likeness G_is_likeness g_is_likeness F_part_of G_part_of g_part_of F_is_part G_is_part g_is_part F__law_tie G__law_tie g__law_tie F__law_from G__law_from g__law_from F__law_stood G__law_stood g__law_stood m_len m_range m_repr m_sorted m_tuple
  exact ok_law F_law F_Frame_init G_Frame_init F__law_hand G__law_hand g__law_hand F__law_take G__law_take g__law_take F__law_scale G__law_scale g__law_scale F__law_colours G__law_colours g__law_colours F__law_grid G__law_grid g__law_grid F__law_leads G__law_leads g__law_leads F__law_called G__law_called g__law_called F__law_right G__law_right g__law_right M_Frame g_Frame m_len m_max m_min m_range m_tuple
end Wl
open PySem PySem.W PyProof.Rows
set_option maxHeartbeats 0 in
theorem PySem.Challenge.cw_wholeturn_k22_parts_of_likenesses_holds : PySem.Challenge.rw_wholeturn_k22_parts_of_likenesses.Holds := by
  w_on; o_law; k_head; (case hw => w_witness2)
  k_fill
  refine Wt.walkG (l := PySem.Challenge.rw_wholeturn_k22_parts_of_likenesses) (n := 63) (k := 10) (x := "_law_script")
    (sp := fun K => (Wt.SpP K Wl.preLaw0 fun _ => .bl true)) rfl (by decide) rfl ⟨rfl, by decide, by decide⟩
    (fun w h Y => PySem.W.kIn_of Y) ?F (fun _ _ _ _ _ hO hS => Wt.law_start hO hS)
  case F =>
    intro w mg fa h KX G hmg
    refine' Wl.all_mk KX G hmg ?p0 ?q0g ?q0h ?q0o ?q0s ?q0m ?q0k ?q0x ?q0y ?a0 ?l0 ?c0 ?k0 ?a1 ?l1 ?c1 ?k1 ?a2 ?l2 ?c2 ?k2 ?a3 ?l3 ?c3 ?k3 ?a4 ?l4 ?c4 ?k4 ?a5 ?l5 ?c5 ?k5 ?a6 ?l6 ?c6 ?k6 ?a7 ?l7 ?c7 ?k7 ?a8 ?l8 ?c8 ?k8 ?a9 ?l9 ?c9 ?k9 ?a10 ?l10 ?c10 ?k10 ?a11 ?l11 ?c11 ?k11 ?a12 ?l12 ?c12 ?k12 ?a13 ?l13 ?c13 ?k13 ?a14 ?l14 ?c14 ?k14 ?a15 ?l15 ?c15 ?k15 ?a16 ?l16 ?c16 ?k16 ?a17 ?l17 ?c17 ?k17 ?a18 ?l18 ?c18 ?k18 ?a19 ?l19 ?c19 ?k19 ?a20 ?l20 ?c20 ?k20 ?a21 ?b21 ?l21 ?c21 ?k21 ?a22 ?b22 ?l22 ?c22 ?k22 ?a23 ?l23 ?c23 ?k23 ?a24 ?l24 ?c24 ?k24 ?a25 ?l25 ?c25 ?k25 ?a26 ?l26 ?c26 ?k26 ?a27 ?l27 ?c27 ?k27 ?a28 ?l28 ?c28 ?k28 ?a29 ?l29 ?c29 ?k29 ?a30 ?l30 ?c30 ?k30 ?a31 ?l31 ?c31 ?k31 ?a32 ?l32 ?c32 ?k32 ?a33 ?l33 ?c33 ?k33 ?a34 ?l34 ?c34 ?k34 ?a35 ?l35 ?c35 ?k35 ?a36 ?l36 ?c36 ?k36 ?a37 ?l37 ?c37 ?k37 ?a38 ?l38 ?c38 ?k38 ?a39 ?l39 ?c39 ?k39 ?a40 ?l40 ?c40 ?k40 ?a41 ?l41 ?c41 ?k41 ?a42 ?l42 ?c42 ?k42 ?v0 ?v1 ?v2 ?v3 ?v4 ?v5 ?v6 ?z0 ?z1 ?z2 ?z3 ?z4 ?z5 ?z6 ?z7 ?z8 ?z9 ?z10 ?z11 ?z12 ?z13 ?z14 ?z15 ?z16
    (case p0 => k_is); (case q0g => k_is); (case q0h => k_is); (case q0o => k_is); (case q0s => k_is); (case q0m => k_is); (case q0k => k_is); (case q0x => k_is); (case q0y => k_is); (case a0 => k_is); (case l0 => k_is); (case c0 => k_is); (case k0 => k_is); (case a1 => k_is); (case l1 => k_is); (case c1 => k_is); (case k1 => k_is); (case a2 => k_is); (case l2 => k_is); (case c2 => k_is); (case k2 => k_is); (case a3 => k_is); (case l3 => k_is); (case c3 => k_is); (case k3 => k_is); (case a4 => k_is); (case l4 => k_is); (case c4 => k_is); (case k4 => k_is); (case a5 => k_is); (case l5 => k_is); (case c5 => k_is); (case k5 => k_is); (case a6 => k_is); (case l6 => k_is); (case c6 => k_is); (case k6 => k_is); (case a7 => k_is); (case l7 => k_is); (case c7 => k_is); (case k7 => k_is); (case a8 => k_is); (case l8 => k_is); (case c8 => k_is); (case k8 => k_is); (case a9 => k_is); (case l9 => k_is); (case c9 => k_is); (case k9 => k_is); (case a10 => k_is); (case l10 => k_is); (case c10 => k_is); (case k10 => k_is); (case a11 => k_is); (case l11 => k_is); (case c11 => k_is); (case k11 => k_is); (case a12 => k_is); (case l12 => k_is); (case c12 => k_is); (case k12 => k_is); (case a13 => k_is); (case l13 => k_is); (case c13 => k_is); (case k13 => k_is); (case a14 => k_is); (case l14 => k_is); (case c14 => k_is); (case k14 => k_is); (case a15 => k_is); (case l15 => k_is); (case c15 => k_is); (case k15 => k_is); (case a16 => k_is); (case l16 => k_is); (case c16 => k_is); (case k16 => k_is); (case a17 => k_is); (case l17 => k_is); (case c17 => k_is); (case k17 => k_is); (case a18 => k_is); (case l18 => k_is); (case c18 => k_is); (case k18 => k_is); (case a19 => k_is); (case l19 => k_is); (case c19 => k_is); (case k19 => k_is); (case a20 => k_is); (case l20 => k_is); (case c20 => k_is); (case k20 => k_is); (case a21 => k_is); (case b21 => k_is); (case l21 => k_is); (case c21 => k_is); (case k21 => k_is); (case a22 => k_is); (case b22 => k_is); (case l22 => k_is); (case c22 => k_is); (case k22 => k_is); (case a23 => k_is); (case l23 => k_is); (case c23 => k_is); (case k23 => k_is); (case a24 => k_is); (case l24 => k_is); (case c24 => k_is); (case k24 => k_is); (case a25 => k_is); (case l25 => k_is); (case c25 => k_is); (case k25 => k_is); (case a26 => k_is); (case l26 => k_is); (case c26 => k_is); (case k26 => k_is); (case a27 => k_is); (case l27 => k_is); (case c27 => k_is); (case k27 => k_is); (case a28 => k_is); (case l28 => k_is); (case c28 => k_is); (case k28 => k_is); (case a29 => k_is); (case l29 => k_is); (case c29 => k_is); (case k29 => k_is); (case a30 => k_is); (case l30 => k_is); (case c30 => k_is); (case k30 => k_is); (case a31 => k_is); (case l31 => k_is); (case c31 => k_is); (case k31 => k_is); (case a32 => k_is); (case l32 => k_is); (case c32 => k_is); (case k32 => k_is); (case a33 => k_is); (case l33 => k_is); (case c33 => k_is); (case k33 => k_is); (case a34 => k_is); (case l34 => k_is); (case c34 => k_is); (case k34 => k_is); (case a35 => k_is); (case l35 => k_is); (case c35 => k_is); (case k35 => k_is); (case a36 => k_is); (case l36 => k_is); (case c36 => k_is); (case k36 => k_is); (case a37 => k_is); (case l37 => k_is); (case c37 => k_is); (case k37 => k_is); (case a38 => k_is); (case l38 => k_is); (case c38 => k_is); (case k38 => k_is); (case a39 => k_is); (case l39 => k_is); (case c39 => k_is); (case k39 => k_is); (case a40 => k_is); (case l40 => k_is); (case c40 => k_is); (case k40 => k_is); (case a41 => k_is); (case l41 => k_is); (case c41 => k_is); (case k41 => k_is); (case a42 => k_is); (case l42 => k_is); (case c42 => k_is); (case k42 => k_is); (case v0 => k_is); (case v1 => k_is); (case v2 => k_is); (case v3 => k_is); (case v4 => k_is); (case v5 => k_is); (case v6 => k_is); (case z0 => k_is); (case z1 => k_is); (case z2 => k_is); (case z3 => k_is); (case z4 => k_is); (case z5 => k_is); (case z6 => k_is); (case z7 => k_is); (case z8 => k_is); (case z9 => k_is); (case z10 => k_is); (case z11 => k_is); (case z12 => k_is); (case z13 => k_is); (case z14 => k_is); (case z15 => k_is); (case z16 => k_is)
