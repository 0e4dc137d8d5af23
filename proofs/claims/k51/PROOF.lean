import PyProof.Rows.All
import Wide.All
import OpenK.AllK
import Wide.FinOn
import HandS.ForMost
import HandS.IsInst
import HandS.Wide
import HandS.TupAny
import HandS.TupMul
import HandS.RaiseMore
import HandS.Conv
import HandS.Strs
import HandS.Lambda
import PyProof.ReprLen
import HandS.Zip
import HandS.Walk
import HandS.Style
import KE.GoesNew
import KE.IntTextLaws
import PyProof.StrBlock2
import HandS.Text
import HandS.Steps
import KE.GoesEnum
import PyProof.EnumMake
import HandS.Dict
import KE.KDictZip
import HandS.TryOnly
import KE.KDictItemsList
import HandS.SetFor
import PyProof.Rows.IntBool
import PyProof.CallStr
import PyProof.PureInt
import PyProof.FactsAll.bool_2
import PyProof.Rows.RuleB_bool
import HandS.Defaults
import KE.SortData
import PyProof.Transfer
import HandS.TupSets
import KE.KDictKeyed
import KE.KDictLaws
import KE.DataFind
import HandS.Flow
import KE.KDictCopyH
import KE.KDictSum
import KE.KEqDict
import HandS.DictTup
import HandS.Deep
import PyProof.Rows.StrFit
import PyProof.Rows.EqBoolInt
import PyProof.DictMoreH
import PyProof.DictRoadsH
import KE.DataCmp
import KE.DatumOrd
import KE.KTupSum
import HandS.Small
import HandS.DictComp
import HandS.WideBits
import HandS.Iter
import KE.KExcSuper
import KE.KExcPX
import HandS.Exc
import HandS.ExcInit
import HandS.ExcField
import HandS.ExcIs
import HandS.ExcSuper
import KE.KExcIs
import KE.DataMinMax
import HandS.TupLen
import KE.KDictPairs
import HandS.More
import HandS.Remove
import HandS.OwnEq
import PyProof.InstNe
import HandS.Codes
import KE.SortKeyHeap
import HandS.EndTab
import PySem.Challenge.RW_wholeturn_k51_coarser_or_not
set_option Elab.async false
set_option linter.all false
set_option maxRecDepth 100000
set_option maxHeartbeats 4000000
namespace HdL
open PySem PySem.W PyProof.Rows
set_option maxHeartbeats 0 in
open_top hd for PySem.Challenge.rw_wholeturn_k51_coarser_or_not
end HdL
namespace Wt
open PySem PySem.Spec PyProof.Rows L2
structure FnG (P : Program) (w : World) (K : PySem.W.Frag)
    (mg : Str → Option Value) (base : Heap) (CX : CXT)
    (k : Nat) (f : Addr) (fd : FuncData) (ps : List Str)
    (sp : Sp) : Prop where
  len : ∀ vs H Q E, sp vs H Q E → vs.length = ps.length
  run : ∀ (A : Around) (outer : List Env) (s : Shared) (H : Hp)
    (args : Args) (us : List Value) (vs : List V) (Q : VK) (E : XK),
    A.guards = some [] → Room k A →
    Env0 P w K mg base A outer s H →
    BindsTo s fd args (ps.zip us) → Vals vs us → sp vs H Q E →
    codeAny (model P w) A (.call (.ref f) args)
      (CR CX outer P w H s Q E) s
section
variable {P : Program} {w : World} {K : PySem.W.Frag}
variable {mg : Str → Option Value} {base : Heap} {CX : CXT}
variable {j k : Nat} {f : Addr} {fd : FuncData} {ps : List Str} {sp : Sp}
theorem FnG.of (F : FnOk P w K mg base CX k f fd ps sp) :
    FnG P w K mg base CX k f fd ps sp :=
  ⟨F.len, fun A o s H a us vs Q E _ => F.run A o s H a us vs Q E⟩
theorem FnG.mono (F : FnG P w K mg base CX j f fd ps sp) (h : j ≤ k) :
    FnG P w K mg base CX k f fd ps sp :=
  ⟨F.len, fun A o s H a us vs Q E g r =>
    F.run A o s H a us vs Q E g (r.mono h)⟩
/-- a def of the text, its body read where no repr is under way -/
theorem okG {x qual : Str} {st : Stmt} {N : List Str}
    (F : Fun K x qual st f fd) (S : FnScope N ps (defScope st))
    (len : ∀ vs H Q E, sp vs H Q E → vs.length = ps.length)
    (hbody : ∀ (cdv : Value) (A : Around) (outer : List Env)
      (s : Shared) (H : Hp) (vs : List V) (Q : VK) (E : XK),
      A.guards = some [] →
      Room k (A.deeper
        (envOfC qual (defScope st) s.heap.objs.size f cdv)) →
      sp vs H Q E →
      ∃ t, PSs (cxOf CX0 P w K mg base N qual (defScope st) f cdv A
          outer s H E).nox (defBody st) t ∧
        t { nx := fun _ H' => Q .non H', rt := Q } (start N vs) H) :
    FnG P w K mg base CX0 (k + 1) f fd ps sp := by
  obtain ⟨oc, od, kV, doc, pm, an, cdv, ct, osl, rfl, lk, hcd⟩ := F.ex
  refine ⟨len, ?_⟩
  intro A outer s H args us vs Q E hG hr e0 hb r hsp
  have stays : ∀ b o, base.get? b = some o → s.heap.get? b = some o :=
    fun b o e => (e0.bs b o e).1
  have KX : K.In s.heap := e0.mod.kin.keeps stays
  have lim : s.heap.NoLimit := e0.mod.nolimit.keeps stays
  refine codeAny_call_function hr.depth (KX _ _ lk) rfl S.co S.gen rfl
    (PySem.W.codeRec_of KX hcd) (hb _ _ _ _ ?_)
  refine wpAny_newFunctionEnv_cells S.kind (fun y hy => ?_)
    fun env he s1 inc => ?_
  · rcases S.par y.1 (List.of_mem_zip (a := y.1) (b := y.2) hy).1 with q | q
    · exact .inl q
    · exact .inr ⟨q, PySem.W.cellsFrom_some _ _ _ (.inl q)⟩
  · subst he
    refine ⟨lim.keeps inc.toInCall.keep, codeAny_func ?_⟩
    obtain ⟨t, ht, hq⟩ := hbody cdv A outer s H vs Q E hG (hr.deeper _) hsp
    have I := inv_start (CX := CX0) (E := E) S hr.hd e0
      (len _ _ _ _ hsp) r inc
    refine wpAny_mono (ht.nox.run [] s1 (start N vs) H _ I hq)
      (fun fl s' hs => ?_) fun e s' hs => hs
    cases fl with
    | ret u =>
      obtain ⟨v, σ', H', J, rv, q⟩ := hs
      exact ⟨v, H', J.os, J.bare, J.base, J.hok, rv, q⟩
    | next =>
      obtain ⟨σ', H', J, q⟩ := hs
      exact ⟨V.non, H', J.os, J.bare, J.base, J.hok, rfl, q⟩
    | brk => exact hs.elim fun _ h => h.elim fun _ z => z.2.elim
    | cont => exact hs.elim fun _ h => h.elim fun _ z => z.2.elim
end
section
variable {X : Cx} {CX : CXT} {k : Nat} {f : Addr} {fd : FuncData}
variable {ps : List Str} {sp : Sp} {dvs : List V} {ds : List Value}
variable {E : XK} {x : Str} {p pos : Pos} {e : Expr} {es : List Expr}
variable {t : TA}
theorem run_fnG {pins : List (Addr × Obj)} {σ : L2.St} {H : Hp} {s : Shared}
    {Q : VK} {us : List Value} {vs : List V}
    (F : FnG X.prog X.w X.K X.mg X.base CX k f fd ps sp)
    (hG : X.A.guards = some []) (hr : Room k X.A)
    (hb : Binds X.K fd ps ds) (hd : Vals dvs ds) (hx : Passes CX X E)
    (I : Inv X pins σ H s) (r : Vals vs us) (h : sp (vs ++ dvs) H Q E) :
    wpAny (model X.prog X.w) X.A (call (.ref f) us)
      (EP X pins σ Q) X.xe s := by
  have r2 := r.append hd
  have hl : (us ++ ds).length = ps.length :=
    r2.length.symm.trans (F.len _ _ _ _ h)
  have go := F.run X.A X.stack s H ⟨us, []⟩ _ _ Q E hG hr I.env0
    (hb s us I.kIn hl) r2 h
  refine wpAny_call (codeAny_mono go fun res s' hq => ?_)
  match res, hq with
  | .error e, hq => exact hx pins σ H s e s' I hq
  | .ok (.ret u), hq => exact I.after hq
  | .ok .next, hq => exact False.elim hq
  | .ok .brk, hq => exact False.elim hq
  | .ok .cont, hq => exact False.elim hq
/-- f(e, ..) of such a def -/
theorem pe_callG (F : FnG X.prog X.w X.K X.mg X.base CX k f fd ps sp)
    (hG : X.A.guards = some []) (hr : Room k X.A) (hg : Gl X x)
    (hm : X.mg x = some (.ref f))
    (hk : PySem.W.keepIn X.K (.ref f) = true)
    (hb : Binds X.K fd ps ds) (hd : Vals dvs ds) (hx : Passes CX X E)
    (ha : PA X (e :: es) t)
    (hdb : (x == ("__debug__" : Str)) = false := by decide)
    (he : starEach (e :: es) X.env =
      (false, eval e X.env) :: starEach es X.env := by rfl)
    (hpl : (backTo pos (starEach es X.env)).any (·.1) = false := by rfl) :
    PE X (.Call (.Name x p) (e :: es) [] pos) (tCall sp dvs E t) := by
  constructor
  intro pins s σ H Q I h
  refine wpAny_Call_Name_kw (ld_glob I hg hm ?_ hdb)
  refine PySem.W.callWith_K (h₀ := X.base) I.ok.mod.kin hk
    (thn (ha.run pos pins s σ H _ I h) ?_) he hpl
  intro us s1 ⟨vs, H1, I1, r, q⟩
  exact ⟨I1.kIn, run_fnG F hG hr hb hd hx I1 r q⟩
end
end Wt

namespace Wt
open PySem PySem.Spec PyProof.Rows L2
def NewT (H : Hp) (xs : List V) (Q : VK) : Prop :=
  ∀ (p : Addr) (o : Obj), H p = none → o.dict = none →
    o.cls = .type "tuple" → Q (.ref p) (upd H p (.frz o (.tup xs)))
section
variable {X : Cx}
theorem ep_newT {pins : List (Addr × Obj)} {σ : L2.St} {H : Hp} {s : Shared}
    {xs : List V} {its : List Value} {n tk : Nat} {Q : VK}
    (I : Inv X pins σ H s) (hz : xs.length ≤ sizeLine) (r : Vals xs its)
    (q : NewT H xs Q) :
    EP X pins σ Q (.ref s.heap.objs.size) { s with heap := (s.heap.push
      (Obj.mk (.type "tuple") none (.seq its.toArray n) #[])), toks := tk } := by
  have g := Heap.get?_push_size s.heap
    (o := Obj.mk (.type "tuple") none (.seq its.toArray n) #[]) rfl
  refine ⟨.ref s.heap.objs.size, _, I.laid (t' := tk)
    (o := .frz (Obj.mk (.type "tuple") none (.seq its.toArray n) #[])
      (.tup xs)) (fun b ob e => Heap.get?_push_of_some _ e)
    (Nat.le_refl _) ?_, rfl, q _ _ (I.hok.fresh (Nat.le_refl _)) rfl rfl⟩
  exact ⟨g, hz, its, r, ⟨_, g, rfl, n, rfl⟩⟩
def tTupC (t : TA) : TE := fun σ H Q => t σ H fun xs H1 =>
  xs.length ≤ sizeLine ∧ NewT H1 xs Q
theorem pe_tupC {es : List Expr} {t : TA} {pos : Pos} {x1} (h : PA X es t) :
    PE X (.Tuple es x1 pos) (tTupC t) := by
  refine ⟨fun pins s σ H Q I hq => ?_⟩
  refine wpAny_Tuple_spliced (thn (h.run pos pins s σ H _ I hq)
    fun us s1 ⟨xs, H1, I1, r, z, q⟩ => ⟨by rw [← r.length]; exact z, ?_⟩)
  exact ep_newT I1 z r q
abbrev rTupC (K : PySem.W.Frag) : List V → Hp → VK → Prop := fun xs H Q =>
  ∃ p ys, xs = [.ref p] ∧ ((SqL K H p ys ∧ NewT H ys Q) ∨
    (SqT K H p ys ∧ Q (.ref p) H))
theorem call_tupC : CallR X (.type "tuple") (rTupC X.K) := by
  intro pins s σ H xs us Q I r h
  obtain ⟨p, ys, rfl, h⟩ := h
  obtain ⟨u, rfl, rx⟩ := vals1 r
  cases rx
  rcases h with ⟨hq, q⟩ | ⟨hq, q⟩
  · obtain ⟨its, r', pl, hz⟩ := I.list hq
    have hlen := r'.length
    refine call_tuple_list pl.isList (fun h' kp => ?_)
      (by simp only [List.size_toArray]; omega)
    have I1 : Inv X pins σ H { s with heap := h' } := I.kept (t' := s.toks) kp
    exact ep_newT I1 hz r' q
  · obtain ⟨its, r', pl, hz⟩ := I.tuple hq
    exact call_tuple_same pl ⟨.ref p, H, I, rfl, q⟩
def rCatC (K : PySem.W.Frag) : R2 := fun x y H Q => ∃ a b xs ys,
  x = .ref a ∧ y = .ref b ∧ SqT K H a xs ∧ SqT K H b ys ∧
  xs.length + ys.length ≤ sizeLine ∧ (xs = [] → Q (.ref b) H) ∧
  (xs ≠ [] → ys = [] → Q (.ref a) H) ∧
  (xs ≠ [] → ys ≠ [] → NewT H (xs ++ ys) Q)
theorem op_catC : OpR X (binaryOp .Add) (rCatC X.K) := by
  intro pins s σ H x y v u Q I rx ry h
  obtain ⟨a, b, xs, ys, rfl, rfl, ha, hb, hz, q0, q1, q2⟩ := h
  cases rx
  cases ry
  obtain ⟨its, r1, p1, _⟩ := I.tuple ha
  obtain ⟨its2, r2, p2, _⟩ := I.tuple hb
  by_cases hx : xs = []
  · subst hx
    cases r1
    exact cat_tup0 p1 p2 ⟨.ref b, H, I, rfl, q0 rfl⟩
  · refine HT.cat_tup p1 p2 (fun z => hx (r1.nil_iff.mp z))
      (fun z => ⟨.ref a, H, I, rfl, q1 hx (r2.nil_iff.mp z)⟩) (fun z => ?_)
      (by rw [← r1.length, ← r2.length]; exact hz)
    exact ep_newT (tk := s.toks) I (by rw [List.length_append]; exact hz)
      (r1.append r2) (q2 hx fun w => z (r2.nil_iff.mpr w))
def rSlC (K : PySem.W.Frag) : V → Option Int → Option Int → Hp → VK → Prop :=
  fun x lo hi H Q => ∃ a xs, x = .ref a ∧ SqT K H a xs ∧
  (HT.sIx xs.length 0 lo = 0 ∧ HT.sIx xs.length xs.length hi = xs.length →
    Q (.ref a) H) ∧
  (¬ (HT.sIx xs.length 0 lo = 0 ∧ HT.sIx xs.length xs.length hi = xs.length) →
    NewT H (cutV xs lo hi) Q)
theorem sl_tupC : SlR X (rSlC X.K) := by
  intro pins s σ H x v vl vu lo hi sl Q I rx hs pl pu h
  obtain ⟨a, xs, rfl, hx, q1, q2⟩ := h
  cases rx
  obtain ⟨its, r, ht, hz⟩ := I.tuple hx
  have hlen : its.toArray.size = xs.length := by
    rw [List.size_toArray]; exact r.length.symm
  refine ⟨"tuple", _, PyProof.Rows.slot_tuple_getitem.lookup, ht.typeIs, ?_⟩
  by_cases hw : HT.sIx xs.length 0 lo = 0 ∧
      HT.sIx xs.length xs.length hi = xs.length
  · exact getItem_tuple_whole ht hs pl pu (by rw [hlen]; exact hw)
      ⟨.ref a, H, I, rfl, q1 hw⟩
  · refine HT.getItem_tuple_cut ht hs pl pu (by rw [hlen]; exact hw) ?_
      (by rw [hlen]; exact hz)
    rw [hlen]
    exact ep_newT (tk := s.toks) I (Nat.le_trans (cutV_length xs lo hi) hz)
      ((r.drop (HT.sIx xs.length 0 lo)).take
        (HT.sIx xs.length xs.length hi - HT.sIx xs.length 0 lo)) (q2 hw)
def tTupRgC (te : L2.St → Hp → (Int → Int → Hp → Prop) → Prop) : TE :=
  fun σ H Q => te σ H fun a b H1 => RgOk a b ∧ NewT H1 (rgV a b) Q
/-- a tuple whose object has no dict -/
def Cln (H : Hp) (a : Addr) : Prop :=
  ∃ (o : Obj) (xs : List V), H a = some (.frz o (.tup xs)) ∧ o.dict = none
end
end Wt

namespace Wt
open PySem PySem.Spec PyProof.Rows L2
inductive D where
  | non
  | bl (b : Bool)
  | int (i : Int)
  | str (x : Str)
  | lst (xs : List D)
  | tup (xs : List D)
  | dic (kis : List (Int × Int))
  | ins (C : Addr) (ns : List Str) (xs : List D)
  | scr (ns : List Int)
  | dct (ks : List Key) (xs : List D)
/-- the law's script: known to its object, or one of the module's own -/
def Scr (K : PySem.W.Frag) (B : Hp) (a : Addr) (xs : List V) : Prop :=
  (∃ o, B a = some (.frz o (.lst xs))) ∨
    ∃ (o : Obj) (its : Array Value) (n : Nat), K.lookup a = some o ∧
      o.cls = .type "list" ∧ o.dict = none ∧ o.data = .seq its n ∧
      its.size ≤ sizeLine ∧ Vals xs its.toList
theorem Scr.seq {K : PySem.W.Frag} {B H : Hp} {a : Addr} {xs : List V}
    (h : Scr K B a xs) (s : Same B H) : SqL K H a xs := by
  rcases h with ⟨o, h⟩ | h
  · exact .inl (.inr ⟨o, s _ _ h⟩)
  · exact .inr h
theorem Scr.mono {K : PySem.W.Frag} {B H : Hp} {a : Addr} {xs : List V}
    (h : Scr K B a xs) (s : Same B H) : Scr K H a xs := by
  rcases h with ⟨o, h⟩ | h
  · exact .inl ⟨o, s _ _ h⟩
  · exact .inr h
mutual
inductive Is (K : PySem.W.Frag) (B : Hp) : V → D → Prop
  | non : Is K B .non .non
  | bl (b : Bool) : Is K B (.bl b) (.bl b)
  | int (i : Int) : Is K B (.int i) (.int i)
  | str (x : Str) : Is K B (.str x) (.str x)
  | lst {a : Addr} {xs : List V} {ds : List D} :
      B a = some (.lst xs) → IsAll K B xs ds → Is K B (.ref a) (.lst ds)
  | tup {a : Addr} {xs : List V} {ds : List D} :
      SqT K B a xs → IsAll K B xs ds → Cln B a → Is K B (.ref a) (.tup ds)
  | dic {a : Addr} {kis : List (Int × Int)} :
      Rd B a (.dK (kis.map fun p => (Sum.inl p.1, V.int p.2))) →
      Is K B (.ref a) (.dic kis)
  | ins {a dx C : Addr} {ns : List Str} {xs : List V} {ds : List D} :
      B a = some (.ins C dx (ns.zip xs)) → IsAll K B xs ds →
      Is K B (.ref a) (.ins C ns ds)
  | scr {a : Addr} {ns : List Int} :
      Scr K B a (ns.map V.int) → Is K B (.ref a) (.scr ns)
  | dct {a : Addr} {ks : List Key} {vs : List V} {ds : List D} :
      Rd B a (.dK (ks.zip vs)) → ks.length = ds.length → IsAll K B vs ds → Is K B (.ref a) (.dct ks ds)
inductive IsAll (K : PySem.W.Frag) (B : Hp) : List V → List D → Prop
  | nil : IsAll K B [] []
  | cons {v : V} {vs : List V} {d : D} {ds : List D} :
      Is K B v d → IsAll K B vs ds → IsAll K B (v :: vs) (d :: ds)
end
section
variable {K : PySem.W.Frag} {B B2 H : Hp} {a : Addr} {xs : List V}
theorem sameT (s : Same B B2) (h : SqT K B a xs) : SqT K B2 a xs := by
  rcases h with (h | ⟨o, h⟩) | h
  · exact .inl (.inl (s _ _ h))
  · exact .inl (.inr ⟨o, s _ _ h⟩)
  · exact .inr h
theorem Cln.mono (s : Same B B2) (h : Cln B a) : Cln B2 a := by
  obtain ⟨o, xs, e, d⟩ := h
  exact ⟨o, xs, s _ _ e, d⟩
theorem rdMono {u : HO} (s : Same B B2) (h : Rd B a u) : Rd B2 a u := by
  rcases h with h | ⟨o, h⟩
  · exact .inl (s _ _ h)
  · exact .inr ⟨o, s _ _ h⟩
mutual
theorem Is.mono (s : Same B B2) : ∀ {v : V} {d : D}, Is K B v d → Is K B2 v d
  | _, _, .non => .non
  | _, _, .bl b => .bl b
  | _, _, .int i => .int i
  | _, _, .str x => .str x
  | _, _, .lst h r => .lst (s _ _ h) (IsAll.mono s r)
  | _, _, .tup h r c => .tup (sameT s h) (IsAll.mono s r) (c.mono s)
  | _, _, .dic h => .dic (rdMono s h)
  | _, _, .ins h r => .ins (s _ _ h) (IsAll.mono s r)
  | _, _, .scr h => .scr (h.mono s)
  | _, _, .dct h e r => .dct (rdMono s h) e (IsAll.mono s r)
theorem IsAll.mono (s : Same B B2) :
    ∀ {vs : List V} {ds : List D}, IsAll K B vs ds → IsAll K B2 vs ds
  | _, _, .nil => .nil
  | _, _, .cons h r => .cons (h.mono s) (IsAll.mono s r)
end
theorem IsAll.length {vs : List V} {ds : List D} :
    IsAll K B vs ds → vs.length = ds.length := by
  intro h
  induction ds generalizing vs with
  | nil => cases h; rfl
  | cons d ds ih =>
    cases h with
    | cons h r => rw [List.length_cons, List.length_cons, ih r]
theorem IsAll.get : ∀ {vs : List V} {ds : List D} {i : Nat} {v : V},
    IsAll K B vs ds → vs[i]? = some v → ∃ d, ds[i]? = some d ∧ Is K B v d
  | _, _, _, _, .nil, e => by simp at e
  | _, _, 0, _, .cons h _, e => by
    simp at e; subst e; exact ⟨_, rfl, h⟩
  | _, _, i + 1, v, .cons _ r, e => by
    obtain ⟨d, h1, h2⟩ := IsAll.get (i := i) (v := v) r (by simpa using e)
    exact ⟨d, by simpa using h1, h2⟩
theorem IsAll.got : ∀ {vs : List V} {ds : List D} {i : Nat} {d : D},
    IsAll K B vs ds → ds[i]? = some d → ∃ v, vs[i]? = some v ∧ Is K B v d
  | _, _, _, _, .nil, e => by simp at e
  | _, _, 0, _, .cons h _, e => by
    simp at e; subst e; exact ⟨_, rfl, h⟩
  | _, _, i + 1, d, .cons _ r, e => by
    obtain ⟨v, h1, h2⟩ := IsAll.got (i := i) (d := d) r (by simpa using e)
    exact ⟨v, by simpa using h1, h2⟩
theorem IsAll.append : ∀ {vs ws : List V} {ds es : List D},
    IsAll K B vs ds → IsAll K B ws es → IsAll K B (vs ++ ws) (ds ++ es)
  | _, _, _, _, .nil, s => s
  | _, _, _, _, .cons h r, s => .cons h (IsAll.append r s)
theorem IsAll.take (n : Nat) : ∀ {vs : List V} {ds : List D},
    IsAll K B vs ds → IsAll K B (vs.take n) (ds.take n) := by
  induction n with
  | zero => intro vs ds _; exact .nil
  | succ n ih =>
    intro vs ds h
    cases h with
    | nil => exact .nil
    | cons h r => exact .cons h (ih r)
theorem IsAll.drop (n : Nat) : ∀ {vs : List V} {ds : List D},
    IsAll K B vs ds → IsAll K B (vs.drop n) (ds.drop n) := by
  induction n with
  | zero => intro vs ds h; exact h
  | succ n ih =>
    intro vs ds h
    cases h with
    | nil => exact .nil
    | cons h r => exact ih r
end
theorem same_new {H : Hp} {p : Addr} {o : HO} (h : H p = none) :
    Same H (upd H p o) := fun b x e => by
  rw [upd_ne (ne_of_none e h)]
  exact e
/-- the tables of code objects that lambdas are made in: where, and what all of a table's objects are named -/
def tabs : List (Addr × Str) := [(390, (("_law_doors_right" : Str) ++ ".<locals>." ++ "<lambda>"))]
theorem tabs_nil : tabs = [(390, (("_law_doors_right" : Str) ++ ".<locals>." ++ "<lambda>"))] := rfl
def NTab (a : Addr) : Prop := ∀ p ∈ tabs, p.1 ≠ a
/-- each table stands, and its code objects are known -/
def Tb (B H : Hp) : Prop := ∀ p ∈ tabs, B p.1 = none ∧ ∃ ps : Array Value, H p.1 = some (.tbl ps) ∧ TriplesOk ps.toList ∧
  ∀ (pos : Pos) (cv : Value), codeAmong pos ps.toList = some cv → ∃ c, cv = .ref c ∧ B c = some (LamX.CodeO c p.2)
theorem Tb.keep {B H B2 H2 : Hp} (t : Tb B H) (s : Same B B2) (n : ∀ p ∈ tabs, B p.1 = none → B2 p.1 = none) (e : ∀ p ∈ tabs, ∀ ps, H p.1 = some (.tbl ps) → H2 p.1 = some (.tbl ps)) : Tb B2 H2 := fun p hp => by
  obtain ⟨e0, ps, e1, e2, e3⟩ := t p hp
  refine ⟨n p hp e0, ps, e p hp ps e1, e2, fun pos cv hc => ?_⟩
  obtain ⟨c, q1, q2⟩ := e3 pos cv hc
  exact ⟨c, q1, s _ _ q2⟩
theorem Tb.up {B H H2 : Hp} (t : Tb B H) (e : Same H H2) : Tb B H2 := t.keep (Same.refl B) (fun _ _ h => h) fun _ _ _ h => e _ _ h
theorem Tb.write {B H : Hp} {a : Addr} {o : HO} (t : Tb B H) (n : NTab a) : Tb B (upd H a o) := t.keep (Same.refl B) (fun _ _ h => h) fun p hp ps h => by rw [upd_ne (n p hp)]; exact h
theorem Tb.nt {B H : Hp} {a : Addr} (t : Tb B H) (n : ∀ ps, H a ≠ some (.tbl ps)) : NTab a := fun p hp e => by
  obtain ⟨_, ps, e1, _⟩ := t p hp
  rw [e] at e1
  exact n ps e1
theorem Tb.ntNone {B H : Hp} {a : Addr} (t : Tb B H) (h : H a = none) : NTab a := t.nt fun ps e => by rw [h] at e; cases e
theorem Tb.ntLst {B H : Hp} {a : Addr} {xs : List V} (t : Tb B H) (h : H a = some (.lst xs)) : NTab a := t.nt fun ps e => by rw [h] at e; cases e
/-- what is known anew of an object that is no table -/
theorem Tb.tell {B H : Hp} {a : Addr} {o : HO} (t : Tb B H) (n : NTab a) (s : Same B (upd B a o)) : Tb (upd B a o) H := t.keep s (fun p hp h => by rw [upd_ne (n p hp)]; exact h) fun _ _ _ h => h
theorem Tb.out {B H : Hp} {a : Addr} (t : Tb B H) (n : ¬ NTab a) : B a = none := by
  obtain ⟨p, hp, e⟩ : ∃ p ∈ tabs, p.1 = a := Classical.byContradiction fun z => n fun p hp e => z ⟨p, hp, e⟩
  rw [← e]
  exact (t p hp).1
def Off (l : Option Addr) (a : Addr) : Prop := l ≠ some a ∧ NTab a
/-- all but the tables stay -/
def SameN (H H2 : Hp) : Prop := ∀ b o, NTab b → H b = some o → H2 b = some o
def SameB (B H : Hp) : Prop := Same B H ∧ Tb B H
/-- the law's own hand: what is left of its digits, its seed, its count -/
def Hand (H : Hp) (l : Addr) (n : Nat) : Prop :=
  ∃ g s c : Int, H l = some (.lst [.int g, .int s, .int c]) ∧
    0 ≤ g ∧ g < 10 ^ 600 ∧ 0 ≤ s ∧ s < 2 ^ 61 ∧ 0 ≤ c ∧ c ≤ n
theorem Hand.mono {H : Hp} {l : Addr} {n m : Nat} (h : Hand H l n)
    (hm : n ≤ m) : Hand H l m := by
  obtain ⟨g, s, c, e, a1, a2, a3, a4, a5, a6⟩ := h
  exact ⟨g, s, c, e, a1, a2, a3, a4, a5, by omega⟩
theorem Hand.some {H : Hp} {l : Addr} {n : Nat} (h : Hand H l n) :
    H l ≠ none := by
  obtain ⟨g, s, c, e, _⟩ := h
  rw [e]
  exact nofun
inductive Sl where
  | dat (d : D)
  | own (ds : List D)
  | hand
  | obj (R : Hp → Addr → HO → Prop)
def Sl.owns : Sl → Bool
  | .own _ => true
  | .obj _ => true
  | _ => false
abbrev Ro := List (Option Sl)
def SlV (K : PySem.W.Frag) (l : Option Addr) (Z : Addr → Prop)
    (B H : Hp) (v : V) : Sl → Prop
  | .dat d => Is K B v d
  | .own ds => ∃ a xs, v = .ref a ∧ H a = some (.lst xs) ∧ B a = none ∧
      ¬ Z a ∧ Off l a ∧ IsAll K B xs ds
  | .hand => ∃ a, l = some a ∧ v = .ref a
  | .obj R => ∃ a o, v = .ref a ∧ H a = some o ∧ B a = none ∧
      ¬ Z a ∧ Off l a ∧ R B a o ∧
      ∀ B1 B2, Same B1 B2 → R B1 a o → R B2 a o
theorem SlV.owned {K : PySem.W.Frag} {l : Option Addr} {Z : Addr → Prop}
    {B H : Hp} {v : V} {s : Sl} (o : s.owns = true) (q : SlV K l Z B H v s) :
    ∃ a x, v = .ref a ∧ H a = some x ∧ B a = none ∧ ¬ Z a ∧ Off l a := by
  cases s with
  | dat d => cases o
  | hand => cases o
  | own ds =>
    obtain ⟨a, xs, e, q1, q2, q3, q4, _⟩ := q
    exact ⟨a, _, e, q1, q2, q3, q4⟩
  | obj R =>
    obtain ⟨a, x, e, q1, q2, q3, q4, _⟩ := q
    exact ⟨a, x, e, q1, q2, q3, q4⟩
structure Bs (l : Option Addr) (Z : Addr → Prop) (m : Nat) (B H : Hp) :
    Prop where
  sub : Same B H
  hand : ∀ a, l = some a → Hand H a m ∧ B a = none
  zs : ∀ z, Z z → H z ≠ none ∧ B z = none ∧ Off l z
  tab : Tb B H
structure Ok (K : PySem.W.Frag) (l : Option Addr) (Z : Addr → Prop)
    (m : Nat) (B H : Hp) (σ : L2.St) (ρ : Ro) : Prop extends
    Bs l Z m B H where
  len : σ.length = ρ.length
  sl : ∀ (i : Nat) s, ρ[i]? = some (some s) →
    ∃ v, σ[i]? = some (some v) ∧ SlV K l Z B H v s
  dis : ∀ (i j : Nat) (s t : Sl) a, i ≠ j → s.owns = true →
    t.owns = true → ρ[i]? = some (some s) → ρ[j]? = some (some t) →
    σ[i]? = some (some (.ref a)) → σ[j]? ≠ some (some (.ref a))
structure Fr (Z : Addr → Prop) (B H B2 H2 : Hp) : Prop where
  sub : Same B B2
  kept : ∀ z, Z z → H2 z = H z
section
variable {K : PySem.W.Frag} {l : Option Addr} {Z : Addr → Prop}
variable {m m' : Nat} {B H B1 H1 B2 H2 : Hp} {σ : L2.St} {ρ : Ro}
theorem Fr.refl : Fr Z B H B H := ⟨Same.refl B, fun _ _ => rfl⟩
theorem Fr.trans (a : Fr Z B H B1 H1) (b : Fr Z B1 H1 B2 H2) :
    Fr Z B H B2 H2 :=
  ⟨a.sub.trans b.sub, fun z h => (b.kept z h).trans (a.kept z h)⟩
theorem Bs.mono (h : Bs l Z m B H) (hm : m ≤ m') : Bs l Z m' B H :=
  ⟨h.sub, fun a e => ⟨(h.hand a e).1.mono hm, (h.hand a e).2⟩, h.zs, h.tab⟩
/-- the state over a heap in which more stands: all own lists, the hand and what is kept are as they were -/
theorem Ok.step (h : Ok K l Z m B H σ ρ) (hs : Same B B2) (hB : SameB B2 H2)
    (hh : ∀ a, l = some a → Hand H2 a m')
    (hk : ∀ a o, Off l a → H a = some o → H2 a = some o)
    (hf : ∀ a, H a ≠ none → B a = none → B2 a = none) :
    Ok K l Z m' B2 H2 σ ρ ∧ Fr Z B H B2 H2 := by
  have keep : ∀ z, Off l z → H z ≠ none → H2 z = H z := by
    intro z hz hn
    cases e : H z with
    | none => exact absurd e hn
    | some o => exact hk z o hz e
  refine ⟨⟨⟨hB.1, fun a e => ⟨hh a e, ?_⟩, ?_, hB.2⟩, h.len, ?_, h.dis⟩,
    ⟨hs, fun z hz => ?_⟩⟩
  · exact hf a (h.hand a e).1.some (h.hand a e).2
  · intro z hz
    obtain ⟨q1, q2, q3⟩ := h.zs z hz
    exact ⟨by rw [keep z q3 q1]; exact q1, hf z q1 q2, q3⟩
  · intro i s e
    obtain ⟨v, e1, q⟩ := h.sl i s e
    refine ⟨v, e1, ?_⟩
    cases s with
    | dat d => exact Is.mono hs q
    | hand => exact q
    | own ds =>
      obtain ⟨a, xs, rfl, q1, q2, q3, q4, q5⟩ := q
      refine ⟨a, xs, rfl, hk a _ q4 q1, hf a ?_ q2, q3, q4, q5.mono hs⟩
      rw [q1]; exact nofun
    | obj R =>
      obtain ⟨a, o, rfl, q1, q2, q3, q4, q5, q6⟩ := q
      refine ⟨a, o, rfl, hk a _ q4 q1, hf a ?_ q2, q3, q4, q6 _ _ hs q5, q6⟩
      rw [q1]; exact nofun
  · obtain ⟨q1, q2, q3⟩ := h.zs z hz
    exact keep z q3 q1
/-- a new object, which is data from now on -/
theorem Ok.new {p : Addr} {o : HO} (h : Ok K l Z m B H σ ρ)
    (hp : H p = none) :
    Ok K l Z m (upd B p o) (upd H p o) σ ρ ∧
      Fr Z B H (upd B p o) (upd H p o) := by
  have hb : B p = none := by
    cases e : B p with
    | none => rfl
    | some x => rw [h.sub p x e] at hp; cases hp
  refine h.step (same_new hb) ⟨fun b x e => ?_, (h.tab.up (same_new hp)).tell (h.tab.ntNone hp) (same_new hb)⟩ (fun a e => ?_)
    (fun a x _ e => same_new hp a x e) (fun a hn e => ?_)
  · by_cases q : b = p
    · subst q
      rw [upd_same] at e ⊢
      exact e
    · rw [upd_ne q] at e ⊢
      exact h.sub b x e
  · obtain ⟨g, s, c, q, r⟩ := (h.hand a e).1
    exact ⟨g, s, c, same_new hp _ _ q, r⟩
  · have q : a ≠ p := fun z => hn (z ▸ hp)
    rw [upd_ne q]
    exact e
end
def EvC (K : PySem.W.Frag) (l : Option Addr) (te : TE) (ρ : Ro) (m : Nat)
    (Φ : Nat → D → Prop) : Prop :=
  ∀ Z B H σ (Q : VK), Ok K l Z m B H σ ρ →
    (∀ v d m' B2 H2, Ok K l Z m' B2 H2 σ ρ → Fr Z B H B2 H2 →
      Is K B2 v d → Φ m' d → Q v H2) → te σ H Q
def TvC (K : PySem.W.Frag) (l : Option Addr) (tt : TT) (ρ : Ro) (m : Nat)
    (Φ : Nat → Bool → Prop) : Prop :=
  ∀ Z B H σ (Q : Bool → Hp → Prop), Ok K l Z m B H σ ρ →
    (∀ b m' B2 H2, Ok K l Z m' B2 H2 σ ρ → Fr Z B H B2 H2 →
      Φ m' b → Q b H2) → tt σ H Q
def AvC (K : PySem.W.Frag) (l : Option Addr) (ta : TA) (ρ : Ro) (m : Nat)
    (Φ : Nat → List D → Prop) : Prop :=
  ∀ Z B H σ (Q : List V → Hp → Prop), Ok K l Z m B H σ ρ →
    (∀ vs ds m' B2 H2, Ok K l Z m' B2 H2 σ ρ → Fr Z B H B2 H2 →
      IsAll K B2 vs ds → Φ m' ds → Q vs H2) → ta σ H Q
/-- a step on values that are data -/
def VvC (K : PySem.W.Frag) (l : Option Addr) (ρ : Ro)
    (r : List V → Hp → VK → Prop) (ds : List D) (m : Nat)
    (Φ : Nat → D → Prop) : Prop :=
  ∀ Z B H σ vs (Q : VK), Ok K l Z m B H σ ρ → IsAll K B vs ds →
    (∀ v d m' B2 H2, Ok K l Z m' B2 H2 σ ρ → Fr Z B H B2 H2 →
      Is K B2 v d → Φ m' d → Q v H2) → r vs H Q
def SvC (K : PySem.W.Frag) (l : Option Addr) (ts : TS) (ρ : Ro) (m : Nat)
    (Nx : Nat → Ro → Prop) (Rt : Nat → D → Prop) : Prop :=
  ∀ Z B H σ (W : Ends), Ok K l Z m B H σ ρ →
    (∀ σ' ρ' m' B2 H2, Ok K l Z m' B2 H2 σ' ρ' → Fr Z B H B2 H2 →
      Nx m' ρ' → W.nx σ' H2) →
    (∀ v d m' B2 H2, Bs l Z m' B2 H2 → Fr Z B H B2 H2 →
      Is K B2 v d → Rt m' d → W.rt v H2) → ts W σ H
section
variable {K : PySem.W.Frag} {l : Option Addr} {ρ : Ro} {m : Nat}
variable {Φ : Nat → D → Prop} {Θ : Nat → Bool → Prop}
variable {ta tb te : TE} {t u : TT}
theorem e_var {i : Nat} {d : D} (h : ρ[i]? = some (some (.dat d)))
    (q : Φ m d) : EvC K l (tVar i) ρ m Φ := by
  intro Z B H σ Q ok k
  obtain ⟨v, e, z⟩ := ok.sl i _ h
  exact ⟨v, e, k v d m B H ok Fr.refl z q⟩
theorem e_non (q : Φ m .non) : EvC K l (tC .non) ρ m Φ :=
  fun Z B H σ Q ok k => k _ _ m B H ok Fr.refl .non q
theorem e_bl {b : Bool} (q : Φ m (.bl b)) : EvC K l (tC (.bl b)) ρ m Φ :=
  fun Z B H σ Q ok k => k _ _ m B H ok Fr.refl (.bl b) q
theorem e_int {i : Int} (q : Φ m (.int i)) : EvC K l (tC (.int i)) ρ m Φ :=
  fun Z B H σ Q ok k => k _ _ m B H ok Fr.refl (.int i) q
theorem e_str {x : Str} (q : Φ m (.str x)) : EvC K l (tC (.str x)) ρ m Φ :=
  fun Z B H σ Q ok k => k _ _ m B H ok Fr.refl (.str x) q
theorem e_imp {Φ' : Nat → D → Prop} (h : EvC K l te ρ m Φ)
    (q : ∀ n d, Φ n d → Φ' n d) : EvC K l te ρ m Φ' :=
  fun Z B H σ Q ok k => h Z B H σ Q ok fun v d n B2 H2 a b c e =>
    k v d n B2 H2 a b c (q n d e)
theorem e_op {r : R2} (h : EvC K l ta ρ m fun m1 x => EvC K l tb ρ m1
      fun m2 y => VvC K l ρ (fun vs H Q => ∃ x y, vs = [x, y] ∧ r x y H Q)
        [x, y] m2 Φ) : EvC K l (tOp r ta tb) ρ m Φ := by
  intro Z B H σ Q ok k
  refine h Z B H σ _ ok fun v1 d1 m1 B1 H1 o1 f1 i1 g1 => ?_
  refine g1 Z B1 H1 σ _ o1 fun v2 d2 m2 B2 H2 o2 f2 i2 g2 => ?_
  obtain ⟨x, y, e, z⟩ := g2 Z B2 H2 σ [v1, v2] Q o2
    (.cons (i1.mono f2.sub) (.cons i2 .nil)) fun v d m' B3 H3 o3 f3 i3 g3 =>
    k v d m' B3 H3 o3 ((f1.trans f2).trans f3) i3 g3
  cases e
  exact z
theorem e_un {r : V → Hp → VK → Prop} (h : EvC K l ta ρ m fun m1 x =>
      VvC K l ρ (fun vs H Q => ∃ x, vs = [x] ∧ r x H Q) [x] m1 Φ) :
    EvC K l (tUn r ta) ρ m Φ := by
  intro Z B H σ Q ok k
  refine h Z B H σ _ ok fun v1 d1 m1 B1 H1 o1 f1 i1 g1 => ?_
  obtain ⟨x, e, z⟩ := g1 Z B1 H1 σ [v1] Q o1 (.cons i1 .nil)
    fun v d m' B3 H3 o3 f3 i3 g3 =>
    k v d m' B3 H3 o3 (f1.trans f3) i3 g3
  cases e
  exact z
theorem v_I {C : Int → Int → Prop} {g : Int → Int → Int} {i j : Int}
    (hc : C i j) (q : Φ m (.int (g i j))) :
    VvC K l ρ (fun vs H Q => ∃ x y, vs = [x, y] ∧
      rI C (fun i j => .int (g i j)) x y H Q) [.int i, .int j] m Φ := by
  intro Z B H σ vs Q ok is k
  cases is with
  | cons h1 r =>
    cases r with
    | cons h2 r =>
      cases r
      cases h1
      cases h2
      exact ⟨_, _, rfl, i, j, rfl, rfl, hc,
        k _ _ m B H ok Fr.refl (.int _) q⟩
theorem v_I0 {g : Int → Int → Int} {i j : Int} (q : Φ m (.int (g i j))) :
    VvC K l ρ (fun vs H Q => ∃ x y, vs = [x, y] ∧
      rI0 (fun i j => .int (g i j)) x y H Q) [.int i, .int j] m Φ := by
  intro Z B H σ vs Q ok is k
  cases is with
  | cons h1 r =>
    cases r with
    | cons h2 r =>
      cases r
      cases h1
      cases h2
      exact ⟨_, _, rfl, i, j, rfl, rfl, k _ _ m B H ok Fr.refl (.int _) q⟩
theorem v_B0 {g : Int → Int → Bool} {i j : Int} (q : Φ m (.bl (g i j))) :
    VvC K l ρ (fun vs H Q => ∃ x y, vs = [x, y] ∧
      rI0 (fun i j => .bl (g i j)) x y H Q) [.int i, .int j] m Φ := by
  intro Z B H σ vs Q ok is k
  cases is with
  | cons h1 r =>
    cases r with
    | cons h2 r =>
      cases r
      cases h1
      cases h2
      exact ⟨_, _, rfl, i, j, rfl, rfl, k _ _ m B H ok Fr.refl (.bl _) q⟩
/-- == of two texts, two truths -/
theorem v_eqS {a b : Str} (q : Φ m (.bl (decide (a = b)))) :
    VvC K l ρ (fun vs H Q => ∃ x y, vs = [x, y] ∧ rEq x y H Q)
      [.str a, .str b] m Φ := by
  intro Z B H σ vs Q ok is k
  cases is with
  | cons h1 r =>
    cases r with
    | cons h2 r =>
      cases r
      cases h1
      cases h2
      refine ⟨_, _, rfl, rfl, k _ _ m B H ok Fr.refl (.bl _) ?_⟩
      have e : decide (V.str a = V.str b) = decide (a = b) := by
        by_cases h : a = b
        · subst h; simp
        · rw [decide_eq_false h,
            decide_eq_false (fun z => h (V.str.inj z))]
      rw [e]
      exact q
theorem v_neS {a b : Str} (q : Φ m (.bl (!decide (a = b)))) :
    VvC K l ρ (fun vs H Q => ∃ x y, vs = [x, y] ∧ rNe x y H Q)
      [.str a, .str b] m Φ := by
  intro Z B H σ vs Q ok is k
  cases is with
  | cons h1 r =>
    cases r with
    | cons h2 r =>
      cases r
      cases h1
      cases h2
      refine ⟨_, _, rfl, rfl, k _ _ m B H ok Fr.refl (.bl _) ?_⟩
      have e : decide (V.str a = V.str b) = decide (a = b) := by
        by_cases h : a = b
        · subst h; simp
        · rw [decide_eq_false h,
            decide_eq_false (fun z => h (V.str.inj z))]
      rw [e]
      exact q
theorem t_test (h : EvC K l te ρ m fun m1 d => ∃ b, d = .bl b ∧ Θ m1 b) :
    TvC K l (tTest te) ρ m Θ := by
  intro Z B H σ Q ok k
  refine h Z B H σ _ ok fun v d m1 B1 H1 o1 f1 i1 g1 => ?_
  obtain ⟨b, rfl, g⟩ := g1
  cases i1
  exact ⟨b, rfl, k b m1 B1 H1 o1 f1 g⟩
theorem t_B (h : EvC K l te ρ m fun m1 d => ∃ b, d = .bl b ∧ Θ m1 b) :
    TvC K l (tB te) ρ m Θ := by
  intro Z B H σ Q ok k
  refine h Z B H σ _ ok fun v d m1 B1 H1 o1 f1 i1 g1 => ?_
  obtain ⟨b, rfl, g⟩ := g1
  cases i1
  exact ⟨b, rfl, k b m1 B1 H1 o1 f1 g⟩
theorem t_and (h : TvC K l t ρ m fun m1 b =>
      if b = true then TvC K l u ρ m1 Θ else Θ m1 false) :
    TvC K l (tAnd t u) ρ m Θ := by
  intro Z B H σ Q ok k
  refine h Z B H σ _ ok fun b m1 B1 H1 o1 f1 g1 => ?_
  cases b with
  | true =>
    exact g1 Z B1 H1 σ Q o1 fun b m2 B2 H2 o2 f2 g2 =>
      k b m2 B2 H2 o2 (f1.trans f2) g2
  | false =>
    exact k false m1 B1 H1 o1 f1 g1
theorem t_or (h : TvC K l t ρ m fun m1 b =>
      if b = true then Θ m1 true else TvC K l u ρ m1 Θ) :
    TvC K l (tOr t u) ρ m Θ := by
  intro Z B H σ Q ok k
  refine h Z B H σ _ ok fun b m1 B1 H1 o1 f1 g1 => ?_
  cases b with
  | false =>
    exact g1 Z B1 H1 σ Q o1 fun b m2 B2 H2 o2 f2 g2 =>
      k b m2 B2 H2 o2 (f1.trans f2) g2
  | true =>
    exact k true m1 B1 H1 o1 f1 g1
theorem t_not (h : TvC K l t ρ m fun m1 b => Θ m1 (!b)) :
    TvC K l (tNot t) ρ m Θ :=
  fun Z B H σ Q ok k => h Z B H σ _ ok fun b m1 B1 H1 o1 f1 g1 =>
    k _ m1 B1 H1 o1 f1 g1
theorem e_andV (h : EvC K l ta ρ m fun m1 d => ∃ b, d = .bl b ∧
      if b = true then EvC K l tb ρ m1 Φ else Φ m1 (.bl false)) :
    EvC K l (tAndV ta tb) ρ m Φ := by
  intro Z B H σ Q ok k
  refine h Z B H σ _ ok fun v d m1 B1 H1 o1 f1 i1 g1 => ?_
  obtain ⟨b, rfl, g⟩ := g1
  cases i1
  refine ⟨b, rfl, ?_⟩
  cases b with
  | true =>
    exact g Z B1 H1 σ Q o1 fun v d m2 B2 H2 o2 f2 i2 g2 =>
      k v d m2 B2 H2 o2 (f1.trans f2) i2 g2
  | false =>
    exact k _ _ m1 B1 H1 o1 f1 (.bl false) g
theorem e_orV (h : EvC K l ta ρ m fun m1 d => ∃ b, d = .bl b ∧
      if b = true then Φ m1 (.bl true) else EvC K l tb ρ m1 Φ) :
    EvC K l (tOrV ta tb) ρ m Φ := by
  intro Z B H σ Q ok k
  refine h Z B H σ _ ok fun v d m1 B1 H1 o1 f1 i1 g1 => ?_
  obtain ⟨b, rfl, g⟩ := g1
  cases i1
  refine ⟨b, rfl, ?_⟩
  cases b with
  | false =>
    exact g Z B1 H1 σ Q o1 fun v d m2 B2 H2 o2 f2 i2 g2 =>
      k v d m2 B2 H2 o2 (f1.trans f2) i2 g2
  | true =>
    exact k _ _ m1 B1 H1 o1 f1 (.bl true) g
theorem e_notV (h : EvC K l ta ρ m fun m1 d => ∃ b, d = .bl b ∧
      Φ m1 (.bl (!b))) : EvC K l (tNotV ta) ρ m Φ := by
  intro Z B H σ Q ok k
  refine h Z B H σ _ ok fun v d m1 B1 H1 o1 f1 i1 g1 => ?_
  obtain ⟨b, rfl, g⟩ := g1
  cases i1
  exact ⟨b, rfl, k _ _ m1 B1 H1 o1 f1 (.bl _) g⟩
theorem e_if (h : TvC K l t ρ m fun m1 b =>
      if b = true then EvC K l ta ρ m1 Φ else EvC K l tb ρ m1 Φ) :
    EvC K l (tIf t ta tb) ρ m Φ := by
  intro Z B H σ Q ok k
  refine h Z B H σ _ ok fun b m1 B1 H1 o1 f1 g1 => ?_
  cases b with
  | true =>
    exact g1 Z B1 H1 σ Q o1 fun v d m2 B2 H2 o2 f2 i2 g2 =>
      k v d m2 B2 H2 o2 (f1.trans f2) i2 g2
  | false =>
    exact g1 Z B1 H1 σ Q o1 fun v d m2 B2 H2 o2 f2 i2 g2 =>
      k v d m2 B2 H2 o2 (f1.trans f2) i2 g2
/-- a <= b <= c of whole numbers -/
theorem e_chain {g h : Int → Int → Bool} {tc : TE}
    (q : EvC K l ta ρ m fun m1 x => EvC K l tb ρ m1 fun m2 y =>
      ∃ i j, x = .int i ∧ y = .int j ∧
      if g i j = true then EvC K l tc ρ m2 fun m3 z =>
        ∃ n, z = .int n ∧ Φ m3 (.bl (h j n))
      else Φ m2 (.bl false)) :
    EvC K l (tChain (rI0 fun i j => .bl (g i j))
      (rI0 fun i j => .bl (h i j)) ta tb tc) ρ m Φ := by
  intro Z B H σ Q ok k
  refine q Z B H σ _ ok fun v1 d1 m1 B1 H1 o1 f1 i1 g1 => ?_
  refine g1 Z B1 H1 σ _ o1 fun v2 d2 m2 B2 H2 o2 f2 i2 g2 => ?_
  obtain ⟨i, j, rfl, rfl, r⟩ := g2
  cases i1
  cases i2
  refine ⟨i, j, rfl, rfl, _, rfl, ?_⟩
  cases e : g i j with
  | false =>
    rw [e] at r
    exact k _ _ m2 B2 H2 o2 (f1.trans f2) (.bl false) r
  | true =>
    rw [e] at r
    refine r Z B2 H2 σ _ o2 fun v3 d3 m3 B3 H3 o3 f3 i3 g3 => ?_
    obtain ⟨n, rfl, z⟩ := g3
    cases i3
    exact ⟨j, n, rfl, rfl,
      k _ _ m3 B3 H3 o3 ((f1.trans f2).trans f3) (.bl _) z⟩
variable {Ψ : Nat → List D → Prop} {tr tA : TA}
theorem a_nil (q : Ψ m []) : AvC K l tNil ρ m Ψ :=
  fun Z B H σ Q ok k => k [] [] m B H ok Fr.refl .nil q
theorem a_cons (h : EvC K l ta ρ m fun m1 x => AvC K l tr ρ m1 fun m2 xs =>
      Ψ m2 (x :: xs)) : AvC K l (tCons ta tr) ρ m Ψ := by
  intro Z B H σ Q ok k
  refine h Z B H σ _ ok fun v d m1 B1 H1 o1 f1 i1 g1 => ?_
  refine g1 Z B1 H1 σ _ o1 fun vs ds m2 B2 H2 o2 f2 i2 g2 => ?_
  exact k _ _ m2 B2 H2 o2 (f1.trans f2) (.cons (i1.mono f2.sub) i2) g2
theorem sqF {B : Hp} {a : Addr} {xs : List V} {o : Obj}
    (h : B a = some (.frz o (.tup xs))) : SqT K B a xs := .inl (.inr ⟨o, h⟩)
theorem Is.newT {B : Hp} {a : Addr} {xs : List V} {ds : List D} {o : Obj}
    (h : B a = some (.frz o (.tup xs))) (hd : o.dict = none)
    (r : IsAll K B xs ds) : Is K B (.ref a) (.tup ds) :=
  .tup (sqF h) r ⟨o, xs, h, hd⟩
theorem e_tup (h : AvC K l tA ρ m fun m1 ds => ds.length ≤ 100000 ∧
      Φ m1 (.tup ds)) : EvC K l (tTupC tA) ρ m Φ := by
  intro Z B H σ Q ok k
  refine h Z B H σ _ ok fun vs ds m1 B1 H1 o1 f1 i1 g1 => ?_
  refine ⟨?_, fun p ob hp hd _ => ?_⟩
  · rw [i1.length]
    exact Nat.le_trans g1.1 (by decide)
  · obtain ⟨o2, f2⟩ := o1.new (o := .frz ob (.tup vs)) hp
    exact k _ _ m1 _ _ o2 (f1.trans f2)
      (.newT upd_same hd (i1.mono f2.sub)) g1.2
theorem e_lst (h : AvC K l tA ρ m fun m1 ds => ds.length ≤ 100000 ∧
      Φ m1 (.lst ds)) : EvC K l (tLst tA) ρ m Φ := by
  intro Z B H σ Q ok k
  refine h Z B H σ _ ok fun vs ds m1 B1 H1 o1 f1 i1 g1 => ?_
  refine ⟨?_, fun p hp => ?_⟩
  · rw [i1.length]
    exact Nat.le_trans g1.1 (by decide)
  · obtain ⟨o2, f2⟩ := o1.new (o := .lst vs) hp
    exact k _ _ m1 _ _ o2 (f1.trans f2)
      (.lst upd_same (i1.mono f2.sub)) g1.2
theorem e_cb {r : List V → Hp → VK → Prop}
    (h : AvC K l tA ρ m fun m1 ds => VvC K l ρ r ds m1 Φ) :
    EvC K l (tCB r tA) ρ m Φ := by
  intro Z B H σ Q ok k
  refine h Z B H σ _ ok fun vs ds m1 B1 H1 o1 f1 i1 g1 => ?_
  exact g1 Z B1 H1 σ vs Q o1 i1 fun v d m2 B2 H2 o2 f2 i2 g2 =>
    k v d m2 B2 H2 o2 (f1.trans f2) i2 g2
variable {Nx : Nat → Ro → Prop} {Rt : Nat → D → Prop} {ts tu : TS}
theorem s_next (q : Nx m ρ) : SvC K l tNext ρ m Nx Rt :=
  fun Z B H σ W ok k _ => k σ ρ m B H ok Fr.refl q
theorem s_seq (h : SvC K l ts ρ m (fun m1 ρ1 => SvC K l tu ρ1 m1 Nx Rt)
      Rt) : SvC K l (tSeq ts tu) ρ m Nx Rt := by
  intro Z B H σ W ok k j
  refine h Z B H σ _ ok (fun σ1 ρ1 m1 B1 H1 o1 f1 g1 => ?_) ?_
  · exact g1 Z B1 H1 σ1 W o1
      (fun σ2 ρ2 m2 B2 H2 o2 f2 g2 => k σ2 ρ2 m2 B2 H2 o2 (f1.trans f2) g2)
      fun v d m2 B2 H2 o2 f2 i2 g2 => j v d m2 B2 H2 o2 (f1.trans f2) i2 g2
  · exact fun v d m1 B1 H1 o1 f1 i1 g1 => j v d m1 B1 H1 o1 f1 i1 g1
theorem s_ret (h : EvC K l te ρ m Rt) : SvC K l (tRet te) ρ m Nx Rt :=
  fun Z B H σ W ok _ j => h Z B H σ _ ok fun v d m1 B1 H1 o1 f1 i1 g1 =>
    j v d m1 B1 H1 o1.toBs f1 i1 g1
theorem s_if (h : TvC K l t ρ m fun m1 b =>
      if b = true then SvC K l ts ρ m1 Nx Rt else SvC K l tu ρ m1 Nx Rt) :
    SvC K l (tIfS t ts tu) ρ m Nx Rt := by
  intro Z B H σ W ok k j
  refine h Z B H σ _ ok fun b m1 B1 H1 o1 f1 g1 => ?_
  cases b with
  | true =>
    exact g1 Z B1 H1 σ W o1
      (fun σ2 ρ2 m2 B2 H2 o2 f2 g2 => k σ2 ρ2 m2 B2 H2 o2 (f1.trans f2) g2)
      fun v d m2 B2 H2 o2 f2 i2 g2 => j v d m2 B2 H2 o2 (f1.trans f2) i2 g2
  | false =>
    exact g1 Z B1 H1 σ W o1
      (fun σ2 ρ2 m2 B2 H2 o2 f2 g2 => k σ2 ρ2 m2 B2 H2 o2 (f1.trans f2) g2)
      fun v d m2 B2 H2 o2 f2 i2 g2 => j v d m2 B2 H2 o2 (f1.trans f2) i2 g2
/-- a slot set to data -/
theorem Ok.set {Z : Addr → Prop} {B H : Hp} {σ : L2.St} {v : V} {d : D}
    {i : Nat} (h : Ok K l Z m B H σ ρ) (q : Is K B v d) :
    Ok K l Z m B H (σ.set i (some v)) (ρ.set i (some (.dat d))) := by
  refine { h.toBs with len := ?_, sl := ?_, dis := ?_ }
  · rw [List.length_set, List.length_set]
    exact h.len
  · intro j s e
    by_cases hj : i = j
    · subst hj
      have hi : i < ρ.length := by
        obtain ⟨hi, _⟩ := List.getElem?_eq_some_iff.mp e
        simpa using hi
      rw [List.getElem?_set_self hi] at e
      cases e
      exact ⟨v, List.getElem?_set_self (by rw [h.len]; exact hi), q⟩
    · rw [List.getElem?_set_ne hj] at e ⊢
      exact h.sl j s e
  · intro j k s t a hjk p1 p2 e1 e2
    have n1 : i ≠ j := fun z => by
      subst z
      rcases Nat.lt_or_ge i ρ.length with hi | hi
      · rw [List.getElem?_set_self hi] at e1
        cases e1
        cases p1
      · rw [List.getElem?_eq_none (by rw [List.length_set]; exact hi)] at e1
        cases e1
    have n2 : i ≠ k := fun z => by
      subst z
      rcases Nat.lt_or_ge i ρ.length with hi | hi
      · rw [List.getElem?_set_self hi] at e2
        cases e2
        cases p2
      · rw [List.getElem?_eq_none (by rw [List.length_set]; exact hi)] at e2
        cases e2
    rw [List.getElem?_set_ne n1] at e1 ⊢
    rw [List.getElem?_set_ne n2] at e2 ⊢
    exact h.dis j k s t a hjk p1 p2 e1 e2
theorem s_asg {i : Nat} (h : EvC K l te ρ m fun m1 d =>
      Nx m1 (ρ.set i (some (.dat d)))) :
    SvC K l (tAsg te (gName i)) ρ m Nx Rt :=
  fun Z B H σ W ok k _ => h Z B H σ _ ok fun v d m1 B1 H1 o1 f1 i1 g1 =>
    k _ _ m1 B1 H1 (o1.set i1) f1 g1
end
end Wt

namespace Wt
open PySem PySem.Spec PyProof.Rows L2
section
variable {K : PySem.W.Frag} {l : Option Addr} {ρ : Ro} {m : Nat}
variable {Φ : Nat → D → Prop} {Θ : Nat → Bool → Prop}
variable {Nx : Nat → Ro → Prop} {Rt : Nat → D → Prop} {ts tb : TS}
variable {ta te tl : TE} {t u : TT} {tA : TA}
variable {Z : Addr → Prop} {B H : Hp} {σ : L2.St}
theorem Ok.same0 (h : Ok K l Z m B H σ ρ) {p : Addr} (hp : H p = none) :
    B p = none := by
  cases e : B p with
  | none => rfl
  | some x => rw [h.sub p x e] at hp; cases hp
/-- a new object that is not data: kept aside -/
theorem Ok.aside {p : Addr} {o : HO} (h : Ok K l Z m B H σ ρ)
    (hp : H p = none) :
    Ok K l (fun a => Z a ∨ a = p) m B (upd H p o) σ ρ := by
  have up : ∀ a x, H a = some x → upd H p o a = some x := same_new hp
  refine ⟨⟨fun b x e => up b x (h.sub b x e), fun a e => ⟨?_, ?_⟩, ?_, h.tab.up up⟩,
    h.len, ?_, h.dis⟩
  · obtain ⟨g, s, c, q, r⟩ := (h.hand a e).1
    exact ⟨g, s, c, up _ _ q, r⟩
  · exact (h.hand a e).2
  · intro z hz
    rcases hz with hz | rfl
    · obtain ⟨q1, q2, q3⟩ := h.zs z hz
      refine ⟨?_, q2, q3⟩
      cases e : H z with
      | none => exact absurd e q1
      | some x => rw [up z x e]; exact nofun
    · refine ⟨by rw [upd_same]; exact nofun, h.same0 hp, fun e => ?_, h.tab.ntNone hp⟩
      exact (h.hand z e).1.some hp
  · intro i s e
    obtain ⟨v, e1, q⟩ := h.sl i s e
    refine ⟨v, e1, ?_⟩
    cases s with
    | dat d => exact q
    | hand => exact q
    | own ds =>
      obtain ⟨a, xs, rfl, q1, q2, q3, q4, q5⟩ := q
      refine ⟨a, xs, rfl, up _ _ q1, q2, fun z => ?_, q4, q5⟩
      rcases z with z | rfl
      · exact q3 z
      · rw [hp] at q1; cases q1
    | obj R =>
      obtain ⟨a, o', rfl, q1, q2, q3, q4, q5⟩ := q
      refine ⟨a, o', rfl, up _ _ q1, q2, fun z => ?_, q4, q5⟩
      rcases z with z | rfl
      · exact q3 z
      · rw [hp] at q1; cases q1
/-- what is kept aside may be written -/
theorem Ok.write {p : Addr} {o : HO} (h : Ok K l Z m B H σ ρ) (hz : Z p) :
    Ok K l Z m B (upd H p o) σ ρ := by
  obtain ⟨z1, z2, z3⟩ := h.zs p hz
  refine ⟨⟨fun b x e => ?_, fun a e => ⟨?_, (h.hand a e).2⟩, ?_, h.tab.write z3.2⟩,
    h.len, ?_, h.dis⟩
  · have q : b ≠ p := fun z => by subst z; rw [z2] at e; cases e
    rw [upd_ne q]
    exact h.sub b x e
  · obtain ⟨g, s, c, q, r⟩ := (h.hand a e).1
    have n : a ≠ p := fun z => z3.1 (z ▸ e)
    exact ⟨g, s, c, by rw [upd_ne n]; exact q, r⟩
  · intro z hz'
    obtain ⟨q1, q2, q3⟩ := h.zs z hz'
    refine ⟨?_, q2, q3⟩
    by_cases n : z = p
    · subst n; rw [upd_same]; exact nofun
    · rw [upd_ne n]; exact q1
  · intro i s e
    obtain ⟨v, e1, q⟩ := h.sl i s e
    refine ⟨v, e1, ?_⟩
    cases s with
    | dat d => exact q
    | hand => exact q
    | own ds =>
      obtain ⟨a, xs, rfl, q1, q2, q3, q4, q5⟩ := q
      have n : a ≠ p := fun z => q3 (z ▸ hz)
      exact ⟨a, xs, rfl, by rw [upd_ne n]; exact q1, q2, q3, q4, q5⟩
    | obj R =>
      obtain ⟨a, o', rfl, q1, q2, q3, q4, q5⟩ := q
      have n : a ≠ p := fun z => q3 (z ▸ hz)
      exact ⟨a, o', rfl, by rw [upd_ne n]; exact q1, q2, q3, q4, q5⟩
/-- what was kept aside becomes data -/
theorem Ok.thaw {p : Addr} {o : HO}
    (h : Ok K l (fun a => Z a ∨ a = p) m B H σ ρ) (hp : H p = some o)
    (hz : ¬ Z p) : Ok K l Z m (upd B p o) H σ ρ := by
  obtain ⟨z1, z2, z3⟩ := h.zs p (.inr rfl)
  have sm : Same B (upd B p o) := same_new z2
  refine ⟨⟨fun b x e => ?_, fun a e => ⟨(h.hand a e).1, ?_⟩, ?_, h.tab.tell z3.2 sm⟩,
    h.len, ?_, h.dis⟩
  · by_cases q : b = p
    · subst q; rw [upd_same] at e; cases e; exact hp
    · rw [upd_ne q] at e; exact h.sub b x e
  · rw [upd_ne (fun (z : a = p) => z3.1 (z ▸ e))]
    exact (h.hand a e).2
  · intro z hz'
    obtain ⟨q1, q2, q3⟩ := h.zs z (.inl hz')
    refine ⟨q1, ?_, q3⟩
    rw [upd_ne (fun (n : z = p) => hz (n ▸ hz'))]
    exact q2
  · intro i s e
    obtain ⟨v, e1, q⟩ := h.sl i s e
    refine ⟨v, e1, ?_⟩
    cases s with
    | dat d => exact Is.mono sm q
    | hand => exact q
    | own ds =>
      obtain ⟨a, xs, rfl, q1, q2, q3, q4, q5⟩ := q
      have n : a ≠ p := fun z => q3 (.inr z)
      exact ⟨a, xs, rfl, q1, by rw [upd_ne n]; exact q2,
        fun z => q3 (.inl z), q4, q5.mono sm⟩
    | obj R =>
      obtain ⟨a, o', rfl, q1, q2, q3, q4, q5, q6⟩ := q
      have n : a ≠ p := fun z => q3 (.inr z)
      exact ⟨a, o', rfl, q1, by rw [upd_ne n]; exact q2,
        fun z => q3 (.inl z), q4, q6 _ _ sm q5, q6⟩
/-- a slot that is told nothing of may hold anything -/
theorem Ok.unset {j : Nat} {v : Option V} {s : Option Sl}
    (h : Ok K l Z m B H (σ.set j v) (ρ.set j s)) (e : ρ[j]? = some none) :
    Ok K l Z m B H σ ρ := by
  have ne : ∀ (i : Nat) x, ρ[i]? = some (some x) → j ≠ i := fun i x q z => by
    subst z; rw [e] at q; cases q
  refine ⟨h.toBs, by simpa using h.len, fun i s q => ?_,
    fun i k s t a n p1 p2 q1 q2 => ?_⟩
  · obtain ⟨w, e1, z⟩ := h.sl i s (by rw [List.getElem?_set_ne (ne i s q)]; exact q)
    rw [List.getElem?_set_ne (ne i s q)] at e1
    exact ⟨w, e1, z⟩
  · have z := h.dis i k s t a n p1 p2
      (by rw [List.getElem?_set_ne (ne i _ q1)]; exact q1)
      (by rw [List.getElem?_set_ne (ne k _ q2)]; exact q2)
    rw [List.getElem?_set_ne (ne i _ q1), List.getElem?_set_ne (ne k _ q2)] at z
    exact z
theorem Fr.weak {Z' : Addr → Prop} {B H B2 H2 : Hp} (f : Fr Z' B H B2 H2)
    (h : ∀ z, Z z → Z' z) : Fr Z B H B2 H2 :=
  ⟨f.sub, fun z q => f.kept z (h z q)⟩
/-- between two turns: the list at A is what was made -/
def LcW (K : PySem.W.Frag) (l : Option Addr) (Z : Addr → Prop) (ρ : Ro)
    (σ : L2.St) (B H : Hp) (A : Addr) (I : Nat → Nat → List D → Prop)
    (i : Nat) (H' : Hp) : Prop :=
  ∃ n acc xs B', Ok K l (fun a => Z a ∨ a = A) n B' H' σ ρ ∧
    Fr Z B H B' H' ∧ H' A = some (.lst xs) ∧ IsAll K B' xs acc ∧
    I i n acc ∧ acc.length = i
theorem lcw_start {A : Addr} {I : Nat → Nat → List D → Prop}
    (ok : Ok K l Z m B H σ ρ) (hA : H A = none) (h0 : I 0 m []) :
    LcW K l Z ρ σ B H A I 0 (upd H A (.lst [])) := by
  refine ⟨m, [], [], B, ok.aside hA, ⟨Same.refl B, fun z hz => ?_⟩,
    upd_same, .nil, h0, rfl⟩
  exact upd_ne fun e => (ok.zs z hz).1 (e ▸ hA)
theorem lcw_turn {A : Addr} {I : Nat → Nat → List D → Prop} {i j : Nat}
    {x : V} {H' : Hp} {P : D → Prop} (hz : ¬ Z A) (hj : ρ[j]? = some none)
    (w : LcW K l Z ρ σ B H A I i H')
    (hx : ∀ B', Same B B' → ∃ d, Is K B' x d ∧ P d) (hi : i < 100000)
    (he : ∀ d n acc, P d → I i n acc → acc.length = i →
      EvC K l te (ρ.set j (some (.dat d))) n fun n2 y =>
        I (i + 1) n2 (acc ++ [y])) :
    gName j x (wipe σ [j]) H' fun σ2 H2 => wipe σ2 [j] = wipe σ [j] ∧
      tYes σ2 H2 fun b H3 => if b = true then te σ2 H3 fun y H4 =>
        ∃ acc, H4 A = some (.lst acc) ∧ acc.length < sizeLine ∧
          LcW K l Z ρ σ B H A I (i + 1) (upd H4 A (.lst (acc ++ [y])))
      else LcW K l Z ρ σ B H A I (i + 1) H3 := by
  obtain ⟨n, acc, xs, B', ok, fr, hA, is, hI, hl⟩ := w
  obtain ⟨d, hd, hP⟩ := hx B' fr.sub
  have e1 : (wipe σ [j]).set j (some x) = σ.set j (some x) := by
    show (σ.set j none).set j (some x) = _
    rw [List.set_set]
  unfold gName tYes
  dsimp only
  rw [e1, if_pos rfl]
  refine ⟨?_, ?_⟩
  · show (σ.set j (some x)).set j none = σ.set j none
    rw [List.set_set]
  · refine he d n acc hP hI hl _ B' H' _ _ (ok.set hd) fun v y n2 B2 H2 o2 f2 i2 g2 => ?_
    have hA2 : H2 A = some (.lst xs) := (f2.kept A (.inr rfl)).trans hA
    refine ⟨xs, hA2, ?_, n2, acc ++ [y], xs ++ [v], B2,
      (o2.unset hj).write (.inr rfl), ?_, upd_same,
      (is.mono f2.sub).append (.cons i2 .nil), g2, by simp [hl]⟩
    · rw [is.length, hl]
      exact Nat.lt_of_lt_of_le hi (by decide)
    · refine ⟨fr.sub.trans f2.sub, fun z hz' => ?_⟩
      rw [upd_ne (fun (e : z = A) => hz (e ▸ hz'))]
      exact (f2.kept z (.inl hz')).trans (fr.kept z hz')
theorem lcw_end {A : Addr} {I : Nat → Nat → List D → Prop} {i : Nat}
    {H' : Hp} {Q : VK} (hz : ¬ Z A) (w : LcW K l Z ρ σ B H A I i H')
    (q : ∀ n acc, acc.length = i → I i n acc → Φ n (.lst acc))
    (k : ∀ v d m' B2 H2, Ok K l Z m' B2 H2 σ ρ → Fr Z B H B2 H2 →
      Is K B2 v d → Φ m' d → Q v H2) : Q (.ref A) H' := by
  obtain ⟨n, acc, xs, B', ok, fr, hA, is, hI, hl⟩ := w
  have z2 := (ok.zs A (.inr rfl)).2.1
  exact k _ _ n _ _ (ok.thaw hA hz) ⟨fr.sub.trans (same_new z2), fr.kept⟩
    (.lst upd_same (is.mono (same_new z2))) (q n acc hl hI)
theorem e_lcT {j : Nat} (hj : ρ[j]? = some none)
    (h : EvC K l tl ρ m fun m1 x => ∃ ds, x = .tup ds ∧ ds.length ≤ 50000 ∧
      ∃ I : Nat → Nat → List D → Prop, I 0 m1 [] ∧
      (∀ i n acc d, ds[i]? = some d → I i n acc → acc.length = i →
        EvC K l te (ρ.set j (some (.dat d))) n fun n2 y =>
          I (i + 1) n2 (acc ++ [y])) ∧
      ∀ n acc, acc.length = ds.length → I ds.length n acc →
        Φ n (.lst acc)) :
    EvC K l (tLc (iTup K tl) (gName j) tYes te [j]) ρ m Φ := by
  intro Z B H σ Q ok k
  refine h Z B H σ _ ok fun v x m1 B1 H1 o1 f1 i1 g1 => ?_
  obtain ⟨ds, rfl, hl, I, h0, hs, hd⟩ := g1
  cases i1 with
  | @tup a xs ds hT is =>
    refine ⟨a, rfl, ⟨xs, sameT o1.sub hT⟩, fun A hA => ?_⟩
    have hz : ¬ Z A := fun z => (o1.zs A z).1 hA
    refine lc_tup (xs := xs) (LcW K l Z ρ σ B1 H1 A I)
      (lcw_start o1 hA h0) (fun i H' _ w => ?_) (fun i x H' e w => ?_)
      fun H' w => ?_
    · obtain ⟨n, acc, ys, B', ok', fr', _⟩ := w
      exact sameT ok'.sub (sameT fr'.sub hT)
    · have hi : i < xs.length := (List.getElem?_eq_some_iff.mp e).1
      refine lcw_turn (P := fun d => ds[i]? = some d) hz hj w
        (fun B' sb => ?_) (by rw [is.length] at hi; omega)
        fun d n acc => hs i n acc d
      obtain ⟨d, e2, q⟩ := (is.mono sb).get e
      exact ⟨d, q, e2⟩
    · rw [is.length] at w
      exact lcw_end hz w hd fun v d m' B2 H2 o2 f2 i2 g2 =>
        k v d m' B2 H2 o2 (f1.trans f2) i2 g2
theorem e_lcR {j : Nat} (hj : ρ[j]? = some none)
    (h : AvC K l tA ρ m fun m1 x => ∃ c : Int, x = [.int c] ∧ c ≤ 50000 ∧
      -50000 ≤ c ∧
      ∃ I : Nat → Nat → List D → Prop, I 0 m1 [] ∧
      (∀ i n acc, i < c.toNat → I i n acc → acc.length = i →
        EvC K l te (ρ.set j (some (.dat (.int i)))) n fun n2 y =>
          I (i + 1) n2 (acc ++ [y])) ∧
      ∀ n acc, acc.length = c.toNat → I c.toNat n acc → Φ n (.lst acc)) :
    EvC K l (tLc (iRng1 tA) (gName j) tYes te [j]) ρ m Φ := by
  intro Z B H σ Q ok k
  refine h Z B H σ _ ok fun vs x m1 B1 H1 o1 f1 i1 g1 => ?_
  obtain ⟨c, rfl, hc, hc2, I, h0, hs, hd⟩ := g1
  cases i1 with
  | cons i1 r =>
    cases r
    cases i1
    refine ⟨c, rfl, by omega, by omega, fun A hA => ?_⟩
    have hz : ¬ Z A := fun z => (o1.zs A z).1 hA
    refine lc_range (lo := 0) (n := c.toNat) (LcW K l Z ρ σ B1 H1 A I)
      (lcw_start o1 hA h0) (fun i H' hi w => ?_) fun H' w => ?_
    · have e0 : (0 : Int) + (i : Int) = (i : Int) := Int.zero_add _
      rw [e0]
      exact lcw_turn (P := fun d => d = .int i) hz hj w
        (fun B' sb => ⟨_, .int _, rfl⟩) (by omega)
        fun d n acc e => by subst e; exact hs i n acc hi
    · exact lcw_end hz w hd fun v d m' B2 H2 o2 f2 i2 g2 =>
        k v d m' B2 H2 o2 (f1.trans f2) i2 g2
theorem s_forT {j : Nat}
    (h : EvC K l tl ρ m fun m1 x => ∃ ds, x = .tup ds ∧
      ∃ I : Nat → Nat → Ro → Prop, I 0 m1 ρ ∧
      (∀ i n ρ' d, ds[i]? = some d → I i n ρ' →
        SvC K l tb (ρ'.set j (some (.dat d))) n (fun n2 ρ2 =>
          I (i + 1) n2 ρ2) Rt) ∧
      ∀ n ρ', I ds.length n ρ' → Nx n ρ') :
    SvC K l (tFor (iTup K tl) (gName j) tb) ρ m Nx Rt := by
  intro Z B H σ W ok k jr
  refine h Z B H σ _ ok fun v x m1 B1 H1 o1 f1 i1 g1 => ?_
  obtain ⟨ds, rfl, I, h0, hs, hd⟩ := g1
  cases i1 with
  | @tup a xs ds hT is =>
    refine ⟨a, rfl, ⟨xs, sameT o1.sub hT⟩, ?_⟩
    refine for_tup (xs := xs) (fun i σ' H' => ∃ n ρ' B',
      Ok K l Z n B' H' σ' ρ' ∧ Fr Z B1 H1 B' H' ∧ I i n ρ')
      ⟨m1, ρ, B1, o1, Fr.refl, h0⟩ (fun i σ' H' _ w => ?_)
      (fun i x σ' H' e w => ?_) fun σ' H' w => ?_
    · obtain ⟨n, ρ', B', ok', fr', _⟩ := w
      exact sameT ok'.sub (sameT fr'.sub hT)
    · obtain ⟨n, ρ', B', ok', fr', hI⟩ := w
      obtain ⟨d, e2, q⟩ := (is.mono fr'.sub).get e
      refine hs i n ρ' d e2 hI Z B' H' _ _ (ok'.set q)
        (fun σ2 ρ2 m2 B2 H2 o2 f2 g2 => ⟨m2, ρ2, B2, o2, fr'.trans f2, g2⟩)
        fun v d m2 B2 H2 o2 f2 i2 g2 => ?_
      exact jr v d m2 B2 H2 o2 ((f1.trans fr').trans f2) i2 g2
    · obtain ⟨n, ρ', B', ok', fr', hI⟩ := w
      rw [is.length] at hI
      exact k σ' ρ' n B' H' ok' (f1.trans fr') (hd n ρ' hI)
theorem s_forL {j : Nat}
    (h : EvC K l tl ρ m fun m1 x => ∃ ds, x = .lst ds ∧
      ∃ I : Nat → Nat → Ro → Prop, I 0 m1 ρ ∧
      (∀ i n ρ' d, ds[i]? = some d → I i n ρ' →
        SvC K l tb (ρ'.set j (some (.dat d))) n (fun n2 ρ2 =>
          I (i + 1) n2 ρ2) Rt) ∧
      ∀ n ρ', I ds.length n ρ' → Nx n ρ') :
    SvC K l (tFor (iList K tl) (gName j) tb) ρ m Nx Rt := by
  intro Z B H σ W ok k jr
  refine h Z B H σ _ ok fun v x m1 B1 H1 o1 f1 i1 g1 => ?_
  obtain ⟨ds, rfl, I, h0, hs, hd⟩ := g1
  cases i1 with
  | @lst a xs ds hT is =>
    refine ⟨a, rfl, ⟨xs, SqL.of (o1.sub _ _ hT)⟩, ?_⟩
    refine for_list (xs := xs) (fun i σ' H' => ∃ n ρ' B',
      Ok K l Z n B' H' σ' ρ' ∧ Fr Z B1 H1 B' H' ∧ I i n ρ')
      ⟨m1, ρ, B1, o1, Fr.refl, h0⟩ (fun i σ' H' _ w => ?_)
      (fun i x σ' H' e w => ?_) fun σ' H' w => ?_
    · obtain ⟨n, ρ', B', ok', fr', _⟩ := w
      exact SqL.of (ok'.sub _ _ (fr'.sub _ _ hT))
    · obtain ⟨n, ρ', B', ok', fr', hI⟩ := w
      obtain ⟨d, e2, q⟩ := (is.mono fr'.sub).get e
      refine hs i n ρ' d e2 hI Z B' H' _ _ (ok'.set q)
        (fun σ2 ρ2 m2 B2 H2 o2 f2 g2 => ⟨m2, ρ2, B2, o2, fr'.trans f2, g2⟩)
        fun v d m2 B2 H2 o2 f2 i2 g2 => ?_
      exact jr v d m2 B2 H2 o2 ((f1.trans fr').trans f2) i2 g2
    · obtain ⟨n, ρ', B', ok', fr', hI⟩ := w
      rw [is.length] at hI
      exact k σ' ρ' n B' H' ok' (f1.trans fr') (hd n ρ' hI)
theorem s_forR {j : Nat}
    (h : AvC K l tA ρ m fun m1 x => ∃ c : Int, x = [.int c] ∧
      c < 2 ^ 62 ∧ -(2 ^ 62) ≤ c ∧
      ∃ I : Nat → Nat → Ro → Prop, I 0 m1 ρ ∧
      (∀ (i n : Nat) ρ', i < c.toNat → I i n ρ' →
        SvC K l tb (ρ'.set j (some (.dat (.int i)))) n (fun n2 ρ2 =>
          I (i + 1) n2 ρ2) Rt) ∧
      ∀ n ρ', I c.toNat n ρ' → Nx n ρ') :
    SvC K l (tFor (iRng1 tA) (gName j) tb) ρ m Nx Rt := by
  intro Z B H σ W ok k jr
  refine h Z B H σ _ ok fun vs x m1 B1 H1 o1 f1 i1 g1 => ?_
  obtain ⟨c, rfl, hc, hc2, I, h0, hs, hd⟩ := g1
  cases i1 with
  | cons i1 r =>
    cases r
    cases i1
    refine ⟨c, rfl, hc2, hc, ?_⟩
    refine for_range (lo := 0) (n := c.toNat) (fun i σ' H' => ∃ n ρ' B',
      Ok K l Z n B' H' σ' ρ' ∧ Fr Z B1 H1 B' H' ∧ I i n ρ')
      ⟨m1, ρ, B1, o1, Fr.refl, h0⟩
      (fun i σ' H' hi w => ?_) fun σ' H' w => ?_
    · obtain ⟨n, ρ', B', ok', fr', hI⟩ := w
      have e0 : (0 : Int) + (i : Int) = (i : Int) := Int.zero_add _
      rw [e0]
      refine hs i n ρ' hi hI Z B' H' _ _ (ok'.set (.int _))
        (fun σ2 ρ2 m2 B2 H2 o2 f2 g2 => ⟨m2, ρ2, B2, o2, fr'.trans f2, g2⟩)
        fun v d m2 B2 H2 o2 f2 i2 g2 => ?_
      exact jr v d m2 B2 H2 o2 ((f1.trans fr').trans f2) i2 g2
    · obtain ⟨n, ρ', B', ok', fr', hI⟩ := w
      exact k σ' ρ' n B' H' ok' (f1.trans fr') (hd n ρ' hI)
end
end Wt

namespace Wt
open PySem PySem.Spec PyProof.Rows L2
/-- a def that reads data and tells data -/
def SpP (K : PySem.W.Frag) (pre : List D → Prop) (F : List D → D) : Sp :=
  fun vs H Q _ => ∃ B ds, SameB B H ∧ IsAll K B vs ds ∧ pre ds ∧
    ∀ v B2 H2, Same B B2 → SameN H H2 → SameB B2 H2 →
      (∀ a, H a ≠ none → B a = none → B2 a = none) →
      Is K B2 v (F ds) → Q v H2
/-- a def whose first argument is the hand -/
def SpH (K : PySem.W.Frag) (pre : Nat → List D → Prop)
    (Ψ : List D → Nat → Nat → D → Prop) : Sp :=
  fun vs H Q _ => ∃ l ws B ds m, vs = .ref l :: ws ∧ SameB B H ∧
    Hand H l m ∧ B l = none ∧ IsAll K B ws ds ∧ pre m ds ∧
    ∀ v d m' B2 H2, Hand H2 l m' → Same B B2 → SameB B2 H2 →
      (∀ a o, a ≠ l → NTab a → H a = some o → H2 a = some o) →
      (∀ a, H a ≠ none → B a = none → B2 a = none) →
      Ψ ds m m' d → Is K B2 v d → Q v H2
section
variable {K : PySem.W.Frag} {l : Option Addr} {ρ : Ro} {m : Nat}
variable {Φ : Nat → D → Prop} {Θ : Nat → Bool → Prop}
variable {Nx : Nat → Ro → Prop} {Rt : Nat → D → Prop} {ts tb : TS}
variable {ta te tl : TE} {t u : TT} {tA tK : TA}
variable {Z : Addr → Prop} {B H : Hp} {σ : L2.St}
theorem v_P {pre : List D → Prop} {F : List D → D} {ds : List D}
    (hp : pre ds) (q : Φ m (F ds)) {E : XK} :
    VvC K l ρ (fun vs H Q => SpP K pre F vs H Q E) ds m Φ := by
  intro Z B H σ vs Q ok is k
  refine ⟨B, ds, ⟨ok.sub, ok.tab⟩, is, hp, fun v B2 H2 s1 s2 s3 fr iv => ?_⟩
  obtain ⟨o2, f2⟩ := ok.step (m' := m) s1 s3
    (fun a e => by
      obtain ⟨g, s, c, q, r⟩ := (ok.hand a e).1
      exact ⟨g, s, c, s2 _ _ (ok.tab.ntLst q) q, r⟩)
    (fun a o n e => s2 a o n.2 e) fr
  exact k v _ m B2 H2 o2 f2 iv q
theorem e_callP {pre : List D → Prop} {F : List D → D} {E : XK}
    (h : AvC K l tA ρ m fun m1 ds => pre ds ∧ Φ m1 (F ds)) :
    EvC K l (tCall (SpP K pre F) [] E tA) ρ m Φ := by
  intro Z B H σ Q ok k
  refine h Z B H σ _ ok fun vs ds m1 B1 H1 o1 f1 i1 g1 => ?_
  rw [List.append_nil]
  exact v_P g1.1 g1.2 Z B1 H1 σ vs Q o1 i1 fun v d m2 B2 H2 o2 f2 i2 g2 =>
    k v d m2 B2 H2 o2 (f1.trans f2) i2 g2
theorem e_callH {pre : Nat → List D → Prop}
    {Ψ : List D → Nat → Nat → D → Prop} {E : XK} {i : Nat}
    (hi : ρ[i]? = some (some .hand))
    (h : AvC K l tA ρ m fun m1 ds => pre m1 ds ∧
      ∀ m2 d, Ψ ds m1 m2 d → Φ m2 d) :
    EvC K l (tCall (SpH K pre Ψ) [] E (tCons (tVar i) tA)) ρ m Φ := by
  intro Z B H σ Q ok k
  obtain ⟨v0, e0, a, ha, hv⟩ := ok.sl i _ hi
  subst hv
  refine ⟨_, e0, ?_⟩
  refine h Z B H σ _ ok fun vs ds m1 B1 H1 o1 f1 i1 g1 => ?_
  show SpH K pre Ψ (V.ref a :: vs ++ []) H1 Q E
  rw [List.append_nil]
  refine ⟨a, vs, B1, ds, m1, rfl, ⟨o1.sub, o1.tab⟩, (o1.hand a ha).1,
    (o1.hand a ha).2, i1, g1.1, fun v d m2 B2 H2 hh s1 s2 s3 s4 p iv => ?_⟩
  obtain ⟨o2, f2⟩ := o1.step (m' := m2) s1 s2
    (fun b e => by rw [ha] at e; cases e; exact hh)
    (fun b o n e => s3 b o (fun z => n.1 (z ▸ ha)) n.2 e) s4
  exact k v d m2 B2 H2 o2 (f1.trans f2) iv (g1.2 m2 d p)
def datR (ds : List D) : Ro := ds.map fun d => some (.dat d)
theorem isAll_get {B : Hp} {vs : List V} {ds : List D} {i : Nat} {s : Sl}
    (h : IsAll K B vs ds) (e : (datR ds)[i]? = some (some s)) :
    ∃ v, (vs.map some)[i]? = some (some v) ∧ SlV K l Z B H v s := by
  unfold datR at e
  rw [List.getElem?_map] at e
  cases q : ds[i]? with
  | none => rw [q] at e; cases e
  | some d =>
    rw [q] at e
    cases e
    obtain ⟨v, e2, z⟩ := h.got q
    exact ⟨v, by rw [List.getElem?_map, e2]; rfl, z⟩
theorem body_P {pre : List D → Prop} {F : List D → D} {vs : List V}
    {Q : VK} {E : XK} {N : List Str} (h : SpP K pre F vs H Q E)
    (hb : ∀ ds, pre ds → vs.length = ds.length →
      SvC K none ts (datR ds ++ List.replicate (N.length - ds.length) none)
        0 (fun _ _ => F ds = .non) fun _ d => d = F ds) :
    ts { nx := fun _ H' => Q .non H', rt := Q } (start N vs) H := by
  obtain ⟨B, ds, sb, is, hp, k⟩ := h
  have hl := is.length
  have ok : Ok K none (fun a => H a ≠ none ∧ B a = none ∧ NTab a) 0 B H
      (start N vs) (datR ds ++ List.replicate (N.length - ds.length) none) := by
    refine ⟨⟨sb.1, fun a e => (nomatch e), fun z h => ⟨h.1, h.2.1, nofun, h.2.2⟩, sb.2⟩,
      ?_, fun i s e => ?_, fun i j ds1 es a n po p2 e1 => ?_⟩
    · unfold L2.start datR
      simp [hl]
    · rcases Nat.lt_or_ge i ds.length with hi | hi
      · rw [List.getElem?_append_left (by unfold datR; simpa using hi)] at e
        obtain ⟨v, e2, q⟩ := isAll_get (l := none)
          (Z := fun a => H a ≠ none ∧ B a = none ∧ NTab a) (H := H) is e
        refine ⟨v, ?_, q⟩
        unfold L2.start
        rw [List.getElem?_append_left (by simpa [hl] using hi)]
        exact e2
      · rw [List.getElem?_append_right (by unfold datR; simpa using hi)] at e
        rw [List.getElem?_replicate] at e
        split at e <;> cases e
    · rcases Nat.lt_or_ge i ds.length with hi | hi
      · rw [List.getElem?_append_left (by unfold datR; simpa using hi)] at e1
        unfold datR at e1
        rw [List.getElem?_map] at e1
        cases q : ds[i]? with
        | none => rw [q] at e1; cases e1
        | some d => rw [q] at e1; cases e1; cases po
      · rw [List.getElem?_append_right (by unfold datR; simpa using hi)] at e1
        rw [List.getElem?_replicate] at e1
        split at e1 <;> cases e1
  have fin : ∀ v d m' B2 H2, Bs none (fun a => H a ≠ none ∧ B a = none ∧ NTab a) m' B2 H2 →
      Fr (fun a => H a ≠ none ∧ B a = none ∧ NTab a) B H B2 H2 → Is K B2 v d →
      d = F ds → Q v H2 := by
    intro v d m' B2 H2 o2 f2 i2 e
    subst e
    refine k v B2 H2 f2.sub (fun b o nt e => ?_) ⟨o2.sub, o2.tab⟩
      (fun a h1 h2 => ?_) i2
    · cases q : B b with
      | none => rw [f2.kept b ⟨by rw [e]; exact nofun, q, nt⟩]; exact e
      | some x =>
        rw [sb.1 b x q] at e
        cases e
        exact o2.sub b _ (f2.sub b _ q)
    · by_cases nt : NTab a
      · exact (o2.zs a ⟨h1, h2, nt⟩).2.1
      · exact o2.tab.out nt
  exact hb ds hp hl _ B H _ _ ok
    (fun σ' ρ' m' B2 H2 o2 f2 g2 => fin .non .non m' B2 H2 o2.toBs f2 .non g2.symm)
    fin
theorem body_H {pre : Nat → List D → Prop}
    {Ψ : List D → Nat → Nat → D → Prop} {vs : List V}
    {Q : VK} {E : XK} {N : List Str} (h : SpH K pre Ψ vs H Q E)
    (hb : ∀ a ds m, pre m ds → vs.length = ds.length + 1 →
      SvC K (some a) ts (some .hand :: (datR ds ++
        List.replicate (N.length - (ds.length + 1)) none))
        m (fun m' _ => Ψ ds m m' .non) (Ψ ds m)) :
    ts { nx := fun _ H' => Q .non H', rt := Q } (start N vs) H := by
  obtain ⟨a, ws, B, ds, m, rfl, sb, hh, hB, is, hp, k⟩ := h
  have hl := is.length
  have ok : Ok K (some a) (fun b => H b ≠ none ∧ B b = none ∧ b ≠ a ∧ NTab b) m B H
      (start N (.ref a :: ws)) (some .hand :: (datR ds ++
        List.replicate (N.length - (ds.length + 1)) none)) := by
    refine ⟨⟨sb.1, fun b e => ?_, fun z h => ⟨h.1, h.2.1, fun e => ?_, h.2.2.2⟩, sb.2⟩,
      ?_, fun i s e => ?_, fun i j ds1 es b n po p2 e1 => ?_⟩
    · cases e
      exact ⟨hh, hB⟩
    · cases e
      exact h.2.2.1 rfl
    · unfold L2.start datR
      simp [hl]
    · cases i with
      | zero =>
        cases e
        exact ⟨.ref a, rfl, a, rfl, rfl⟩
      | succ i =>
        rw [List.getElem?_cons_succ] at e
        rcases Nat.lt_or_ge i ds.length with hi | hi
        · rw [List.getElem?_append_left (by unfold datR; simpa using hi)] at e
          obtain ⟨v, e2, q⟩ := isAll_get (l := some a)
            (Z := fun b => H b ≠ none ∧ B b = none ∧ b ≠ a ∧ NTab b) (H := H) is e
          refine ⟨v, ?_, q⟩
          unfold L2.start
          rw [List.map_cons, List.cons_append, List.getElem?_cons_succ,
            List.getElem?_append_left (by simpa [hl] using hi)]
          exact e2
        · rw [List.getElem?_append_right (by unfold datR; simpa using hi)] at e
          rw [List.getElem?_replicate] at e
          split at e <;> cases e
    · cases i with
      | zero => cases e1; cases po
      | succ i =>
        rw [List.getElem?_cons_succ] at e1
        rcases Nat.lt_or_ge i ds.length with hi | hi
        · rw [List.getElem?_append_left (by unfold datR; simpa using hi)] at e1
          unfold datR at e1
          rw [List.getElem?_map] at e1
          cases q : ds[i]? with
          | none => rw [q] at e1; cases e1
          | some d => rw [q] at e1; cases e1; cases po
        · rw [List.getElem?_append_right (by unfold datR; simpa using hi)] at e1
          rw [List.getElem?_replicate] at e1
          split at e1 <;> cases e1
  have fin : ∀ v d m' B2 H2,
      Bs (some a) (fun b => H b ≠ none ∧ B b = none ∧ b ≠ a ∧ NTab b) m' B2 H2 →
      Fr (fun b => H b ≠ none ∧ B b = none ∧ b ≠ a ∧ NTab b) B H B2 H2 →
      Is K B2 v d → Ψ ds m m' d → Q v H2 := by
    intro v d m' B2 H2 o2 f2 i2 e
    refine k v d m' B2 H2 (o2.hand a rfl).1 f2.sub ⟨o2.sub, o2.tab⟩
      (fun b o n nt e => ?_) (fun b h1 h2 => ?_) e i2
    · cases q : B b with
      | none =>
        rw [f2.kept b ⟨by rw [e]; exact nofun, q, n, nt⟩]
        exact e
      | some x =>
        rw [sb.1 b x q] at e
        cases e
        exact o2.sub b _ (f2.sub b _ q)
    · by_cases n : b = a
      · subst n
        exact (o2.hand b rfl).2
      · by_cases nt : NTab b
        · exact (o2.zs b ⟨h1, h2, n, nt⟩).2.1
        · exact o2.tab.out nt
  exact hb a ds m hp (by simp [hl]) _ B H _ _ ok
    (fun σ' ρ' m' B2 H2 o2 f2 g2 => fin .non .non m' B2 H2 o2.toBs f2 .non g2)
    fin
theorem Ok.setOwn {p : Addr} {xs : List V} {ds : List D} {i : Nat}
    (h : Ok K l (fun a => Z a ∨ a = p) m B H σ ρ) (hz : ¬ Z p)
    (hp : H p = some (.lst xs)) (is : IsAll K B xs ds) :
    Ok K l Z m B H (σ.set i (some (.ref p))) (ρ.set i (some (.own ds))) := by
  obtain ⟨z1, z2, z3⟩ := h.zs p (.inr rfl)
  have at_i : ∀ {s : Sl}, (ρ.set i (some (.own ds)))[i]? = some (some s) →
      i < ρ.length ∧ s = .own ds := by
    intro s e
    obtain ⟨hi, q⟩ := List.getElem?_eq_some_iff.mp e
    rw [List.length_set] at hi
    rw [List.getElem?_set_self hi] at e
    cases e
    exact ⟨hi, rfl⟩
  refine ⟨⟨h.sub, h.hand, fun z hz' => h.zs z (.inl hz'), h.tab⟩, ?_, ?_, ?_⟩
  · rw [List.length_set, List.length_set]
    exact h.len
  · intro j s e
    by_cases hj : i = j
    · subst hj
      obtain ⟨hi, rfl⟩ := at_i e
      exact ⟨.ref p, List.getElem?_set_self (by rw [h.len]; exact hi),
        p, xs, rfl, hp, z2, hz, z3, is⟩
    · rw [List.getElem?_set_ne hj] at e ⊢
      obtain ⟨v, e1, q⟩ := h.sl j s e
      refine ⟨v, e1, ?_⟩
      cases s with
      | dat d => exact q
      | hand => exact q
      | own es =>
        obtain ⟨a, ys, rfl, q1, q2, q3, q4, q5⟩ := q
        exact ⟨a, ys, rfl, q1, q2, fun z => q3 (.inl z), q4, q5⟩
      | obj R =>
        obtain ⟨a, o', rfl, q1, q2, q3, q4, q5⟩ := q
        exact ⟨a, o', rfl, q1, q2, fun z => q3 (.inl z), q4, q5⟩
  · intro j k ds1 es a n p1 p2 e1 e2 s1 s2
    have other : ∀ (k : Nat) es, es.owns = true → i ≠ k → ρ[k]? = some (some es) →
        σ[k]? ≠ some (some (.ref p)) := by
      intro k es po hk e s
      obtain ⟨v, e1, q⟩ := h.sl k _ e
      obtain ⟨a, ys, rfl, q1, q2, q3, q4⟩ := SlV.owned po q
      rw [e1] at s
      cases s
      exact q3 (.inr rfl)
    by_cases hj : i = j
    · subst hj
      have hk : i ≠ k := n
      rw [List.getElem?_set_ne hk] at e2 s2
      obtain ⟨hi, _⟩ := at_i e1
      rw [List.getElem?_set_self (by rw [h.len]; exact hi)] at s1
      cases s1
      exact other k es p2 hk e2 s2
    · rw [List.getElem?_set_ne hj] at e1 s1
      by_cases hk : i = k
      · subst hk
        obtain ⟨hi, _⟩ := at_i e2
        rw [List.getElem?_set_self (by rw [h.len]; exact hi)] at s2
        cases s2
        exact other j ds1 p1 hj e1 s1
      · rw [List.getElem?_set_ne hk] at e2 s2
        exact h.dis j k ds1 es a n p1 p2 e1 e2 s1 s2
/-- an own list is written -/
theorem Ok.grow {i : Nat} {ds es : List D} {a : Addr} {xs : List V}
    (h : Ok K l Z m B H σ ρ) (hi : ρ[i]? = some (some (.own ds)))
    (hs : σ[i]? = some (some (.ref a))) (is : IsAll K B xs es) :
    Ok K l Z m B (upd H a (.lst xs)) σ (ρ.set i (some (.own es))) ∧
      Fr Z B H B (upd H a (.lst xs)) := by
  obtain ⟨v, e1, b, ys, rfl, q1, q2, q3, q4, q5⟩ := h.sl i _ hi
  rw [hs] at e1
  cases e1
  have hiL : i < ρ.length := (List.getElem?_eq_some_iff.mp hi).1
  refine ⟨⟨⟨fun b x e => ?_, fun b e => ⟨?_, (h.hand b e).2⟩, ?_, h.tab.write q4.2⟩, ?_, ?_, ?_⟩,
    ⟨Same.refl B, fun z hz => upd_ne fun e => q3 (e ▸ hz)⟩⟩
  · rw [upd_ne (fun (z : b = a) => by subst z; rw [q2] at e; cases e)]
    exact h.sub b x e
  · obtain ⟨g, s, c, q, r⟩ := (h.hand b e).1
    refine ⟨g, s, c, ?_, r⟩
    rw [upd_ne (fun (z : b = a) => q4.1 (z ▸ e))]
    exact q
  · intro z hz
    obtain ⟨w1, w2, w3⟩ := h.zs z hz
    refine ⟨?_, w2, w3⟩
    rw [upd_ne (fun (e : z = a) => q3 (e ▸ hz))]
    exact w1
  · rw [List.length_set]
    exact h.len
  · intro j s e
    by_cases hj : i = j
    · subst hj
      rw [List.getElem?_set_self hiL] at e
      cases e
      exact ⟨.ref a, hs, a, xs, rfl, upd_same, q2, q3, q4, is⟩
    · rw [List.getElem?_set_ne hj] at e
      obtain ⟨v, e1, q⟩ := h.sl j s e
      refine ⟨v, e1, ?_⟩
      cases s with
      | dat d => exact q
      | hand => exact q
      | own fs =>
        obtain ⟨b, zs, rfl, p1, p2, p3, p4, p5⟩ := q
        refine ⟨b, zs, rfl, ?_, p2, p3, p4, p5⟩
        rw [upd_ne (fun (z : b = a) => by
          subst z
          exact h.dis i j _ _ b hj rfl rfl hi e hs e1)]
        exact p1
      | obj R =>
        obtain ⟨b, zs, rfl, p1, p2, p3, p4, p5⟩ := q
        refine ⟨b, zs, rfl, ?_, p2, p3, p4, p5⟩
        rw [upd_ne (fun (z : b = a) => by
          subst z
          exact h.dis i j _ _ b hj rfl rfl hi e hs e1)]
        exact p1
  · intro j k ds1 es1 b n p1 p2 e1 e2
    have back : ∀ (j : Nat) x, x.owns = true → (ρ.set i (some (.own es)))[j]? =
        some (some x) → ∃ y, y.owns = true ∧ ρ[j]? = some (some y) := by
      intro j x px e
      by_cases hj : i = j
      · subst hj; exact ⟨_, rfl, hi⟩
      · rw [List.getElem?_set_ne hj] at e; exact ⟨x, px, e⟩
    obtain ⟨ds2, o1, e1'⟩ := back j ds1 p1 e1
    obtain ⟨es2, o2, e2'⟩ := back k es1 p2 e2
    exact h.dis j k ds2 es2 b n o1 o2 e1' e2'
theorem s_app {i : Nat} {ds : List D} (hi : ρ[i]? = some (some (.own ds)))
    (hl : ds.length < 100000)
    (h : EvC K l te ρ m fun m1 d =>
      Nx m1 (ρ.set i (some (.own (ds ++ [d]))))) :
    SvC K l (tDrop (tBM K "list" rAppend (tVar i) (tCons te tNil))) ρ m
      Nx Rt := by
  intro Z B H σ W ok k _
  obtain ⟨v, e1, a, xs, rfl, q1, q2, q3, q4, q5⟩ := ok.sl i _ hi
  refine ⟨_, e1, .inl ⟨rfl, _, SqL.of q1⟩, ?_⟩
  refine h Z B H σ _ ok fun v d m1 B1 H1 o1 f1 i1 g1 => ?_
  obtain ⟨v', e1', a', xs', hv, w1, w2, w3, w4, w5⟩ := o1.sl i _ hi
  subst hv
  rw [e1] at e1'
  cases e1'
  refine ⟨a, xs', v, rfl, rfl, w1, ?_, ?_⟩
  · rw [w5.length]
    exact Nat.lt_of_lt_of_le hl (by decide)
  · obtain ⟨o2, f2⟩ := o1.grow hi e1 (w5.append (.cons i1 .nil))
    exact k _ _ m1 B1 _ o2 (f1.trans f2) g1
theorem s_ext {i : Nat} {ds : List D} (hi : ρ[i]? = some (some (.own ds)))
    (h : EvC K l te ρ m fun m1 x => ∃ es, x = .lst es ∧
      ds.length + es.length ≤ 100000 ∧
      Nx m1 (ρ.set i (some (.own (ds ++ es))))) :
    SvC K l (tDrop (tBM K "list" rExtend (tVar i) (tCons te tNil))) ρ m
      Nx Rt := by
  intro Z B H σ W ok k _
  obtain ⟨v, e1, a, xs, rfl, q1, q2, q3, q4, q5⟩ := ok.sl i _ hi
  refine ⟨_, e1, .inl ⟨rfl, _, SqL.of q1⟩, ?_⟩
  refine h Z B H σ _ ok fun v d m1 B1 H1 o1 f1 i1 g1 => ?_
  obtain ⟨es, rfl, hl, g1⟩ := g1
  obtain ⟨v', e1', a', xs', hv, w1, w2, w3, w4, w5⟩ := o1.sl i _ hi
  subst hv
  rw [e1] at e1'
  cases e1'
  cases i1 with
  | @lst b zs _ hb isb =>
    refine ⟨a, b, xs', zs, rfl, rfl, w1, o1.sub _ _ hb, ?_, ?_⟩
    · rw [w5.length, isb.length]
      exact Nat.le_trans hl (by decide)
    · obtain ⟨o2, f2⟩ := o1.grow hi e1 (w5.append isb)
      exact k _ _ m1 B1 _ o2 (f1.trans f2) g1
/-- an own list is data from here on -/
theorem s_freeze {i : Nat} {ds : List D}
    (hi : ρ[i]? = some (some (.own ds)))
    (h : SvC K l ts (ρ.set i (some (.dat (.lst ds)))) m Nx Rt) :
    SvC K l ts ρ m Nx Rt := by
  intro Z B H σ W ok k j
  obtain ⟨v, e1, a, xs, rfl, q1, q2, q3, q4, q5⟩ := ok.sl i _ hi
  have sm : Same B (upd B a (.lst xs)) := same_new q2
  have hiL : i < ρ.length := (List.getElem?_eq_some_iff.mp hi).1
  have ok2 : Ok K l Z m (upd B a (.lst xs)) H σ
      (ρ.set i (some (.dat (.lst ds)))) := by
    refine ⟨⟨fun b x e => ?_, fun b e => ⟨(ok.hand b e).1, ?_⟩, ?_, ok.tab.tell q4.2 sm⟩, ?_, ?_, ?_⟩
    · by_cases n : b = a
      · subst n; rw [upd_same] at e; cases e; exact q1
      · rw [upd_ne n] at e; exact ok.sub b x e
    · rw [upd_ne (fun (z : b = a) => q4.1 (z ▸ e))]
      exact (ok.hand b e).2
    · intro z hz
      obtain ⟨w1, w2, w3⟩ := ok.zs z hz
      refine ⟨w1, ?_, w3⟩
      rw [upd_ne (fun (e : z = a) => q3 (e ▸ hz))]
      exact w2
    · rw [List.length_set]
      exact ok.len
    · intro j s e
      by_cases hj : i = j
      · subst hj
        rw [List.getElem?_set_self hiL] at e
        cases e
        exact ⟨_, e1, .lst upd_same (q5.mono sm)⟩
      · rw [List.getElem?_set_ne hj] at e
        obtain ⟨v, e2, q⟩ := ok.sl j s e
        refine ⟨v, e2, ?_⟩
        cases s with
        | dat d => exact Is.mono sm q
        | hand => exact q
        | own fs =>
          obtain ⟨b, zs, rfl, p1, p2, p3, p4, p5⟩ := q
          refine ⟨b, zs, rfl, p1, ?_, p3, p4, p5.mono sm⟩
          rw [upd_ne (fun (z : b = a) => by
            subst z
            exact ok.dis i j _ _ b hj rfl rfl hi e e1 e2)]
          exact p2
        | obj R =>
          obtain ⟨b, zs, rfl, p1, p2, p3, p4, p5, p6⟩ := q
          refine ⟨b, zs, rfl, p1, ?_, p3, p4, p6 _ _ sm p5, p6⟩
          rw [upd_ne (fun (z : b = a) => by
            subst z
            exact ok.dis i j _ _ b hj rfl rfl hi e e1 e2)]
          exact p2
    · intro j k ds1 es b n p1 p2 e1' e2'
      have ne : ∀ (j : Nat) x, x.owns = true → (ρ.set i (some (.dat (.lst ds))))[j]? =
          some (some x) → ρ[j]? = some (some x) := by
        intro j x px e
        by_cases hj : i = j
        · subst hj; rw [List.getElem?_set_self hiL] at e; cases e; cases px
        · rw [List.getElem?_set_ne hj] at e; exact e
      exact ok.dis j k ds1 es b n p1 p2 (ne _ _ p1 e1') (ne _ _ p2 e2')
  have f0 : Fr Z B H (upd B a (.lst xs)) H := ⟨sm, fun _ _ => rfl⟩
  exact h Z _ H σ W ok2
    (fun σ2 ρ2 m2 B2 H2 o2 f2 g2 => k σ2 ρ2 m2 B2 H2 o2 (f0.trans f2) g2)
    fun v d m2 B2 H2 o2 f2 i2 g2 => j v d m2 B2 H2 o2 (f0.trans f2) i2 g2
end
end Wt

namespace Wt
open PySem PySem.Spec PyProof.Rows L2
mutual
def D.py : D → PyData
  | .non => .none
  | .bl b => .bool b
  | .int i => .int i
  | .str x => .str x
  | .lst xs => .list (D.pys xs)
  | .tup xs => .tuple (D.pys xs)
  | .dic kis => .dict (kis.map fun p => (.int p.1, .int p.2))
  | .ins _ _ _ => .none
  | .scr _ => .none
  | .dct _ _ => .none
def D.pys : List D → List PyData
  | [] => []
  | x :: xs => D.py x :: D.pys xs
end
mutual
/-- no instance, no script within -/
def D.plain : D → Bool
  | .lst xs => D.plains xs
  | .tup xs => D.plains xs
  | .ins _ _ _ => false
  | .scr _ => false
  | .dct _ _ => false
  | _ => true
def D.plains : List D → Bool
  | [] => true
  | x :: xs => D.plain x && D.plains xs
end
mutual
def D.noLst : D → Bool
  | .lst _ => false
  | .tup xs => D.noLsts xs
  | _ => true
def D.noLsts : List D → Bool
  | [] => true
  | x :: xs => D.noLst x && D.noLsts xs
end
section
variable {X : Cx} {pins : List (Addr × Obj)} {σ : L2.St} {H B : Hp}
variable {s : Shared}
theorem kv_reads {w : World} {P : Program} (h : Heap) :
    ∀ {kis : List (Int × Int)} {vs : List (Key × Value)} {es : List DictEntry},
    KV (kis.map fun p => ((Sum.inl p.1 : Key), V.int p.2)) vs →
    Pairs (mixKind P w) es vs →
    ReadsAll h (es.map (·.key)) ((kis.map fun p =>
      (PyData.int p.1, PyData.int p.2)).map (·.1)) [] ∧
    ReadsAll h (es.map (·.val)) ((kis.map fun p =>
      (PyData.int p.1, PyData.int p.2)).map (·.2)) []
  | [], _, _, k, p => by
    cases k
    cases p
    exact ⟨.nil, .nil⟩
  | (i, j) :: kis, _, _, k, p => by
    cases k with
    | @cons a b as bs hab r =>
      cases p with
      | @cons e kv es' kvs h1 h2 pr =>
        obtain ⟨q1, q2⟩ := kv_reads (w := w) (P := P) h r pr
        obtain ⟨e1, t, e2⟩ := hab
        have h1' : keyIs b.1 e.key = true := h1
        rw [← e1] at h1'
        rcases keyIs_shape h1' with ⟨i', t', ei, ek⟩ | ⟨x, t', ei, _⟩
        · cases ei
          refine ⟨?_, ?_⟩
          · show ReadsAll h (e.key :: _) (PyData.int i :: _) ([] ++ [])
            rw [ek]
            exact .cons (.int _ _) q1
          · show ReadsAll h (e.val :: _) (PyData.int j :: _) ([] ++ [])
            rw [h2, e2]
            exact .cons (.int _ _) q2
        · cases ei
mutual
theorem Is.reads (I : Inv X pins σ H s) (sb : Same B H) :
    ∀ {v : V} {d : D} {u : Value}, Is X.K B v d → d.plain = true →
      RelV v u → ∃ as, Reads s.heap u d.py as ∧
        (d.noLst = true → sysModules ∉ as)
  | _, _, _, .non, _, r => by
    cases r
    exact ⟨_, .none, fun _ => nofun⟩
  | _, _, _, .bl b, _, r => by
    cases r
    exact ⟨_, .bool b, fun _ => nofun⟩
  | _, _, _, .int i, _, r => by
    obtain ⟨t, rfl⟩ := r
    exact ⟨_, .int i t, fun _ => nofun⟩
  | _, _, _, .str x, _, r => by
    obtain ⟨t, rfl⟩ := r
    exact ⟨_, .str x t, fun _ => nofun⟩
  | _, _, _, .lst h is, p, r => by
    cases r
    obtain ⟨its, rv, ⟨o, n, ho, hc, _, hd⟩, _⟩ := I.list (SqL.of (sb _ _ h))
    obtain ⟨as, hr, _⟩ := IsAll.reads I sb is (by simpa [D.plain] using p) rv
    exact ⟨_, .list ho hc hd hr, fun z => by simp [D.noLst] at z⟩
  | _, _, _, .tup h is _, p, r => by
    cases r
    obtain ⟨its, rv, ⟨o, ho, hc, n, hd⟩, _⟩ := I.tuple (sameT sb h)
    obtain ⟨as, hr, hn⟩ := IsAll.reads I sb is (by simpa [D.plain] using p) rv
    exact ⟨_, .tuple ho hc hd hr, fun z => hn (by simpa [D.noLst] using z)⟩
  | _, _, _, .dic h, _, r => by
    cases r
    obtain ⟨_, hs, vs, kv, o, es, ep, ho, hx, hd, _, pr, _⟩ := (rdMono sb h).ok I.hok
    obtain ⟨q1, q2⟩ := kv_reads (P := X.prog) (w := X.w) s.heap kv pr
    refine ⟨_, .dict ho hx.1 hd q1 q2, fun _ hm => ?_⟩
    rw [List.append_nil, List.mem_singleton] at hm
    rw [← hm] at hs
    simp at hs
  | _, _, _, .ins _ _, p, _ => by simp [D.plain] at p
  | _, _, _, .scr _, p, _ => by simp [D.plain] at p
  | _, _, _, .dct _ _ _, p, _ => by simp [D.plain] at p
theorem IsAll.reads (I : Inv X pins σ H s) (sb : Same B H) :
    ∀ {vs : List V} {ds : List D} {us : List Value}, IsAll X.K B vs ds →
      D.plains ds = true → Vals vs us → ∃ as, ReadsAll s.heap us (D.pys ds) as ∧
        (D.noLsts ds = true → sysModules ∉ as)
  | _, _, _, .nil, _, r => by
    cases r
    exact ⟨_, .nil, fun _ => nofun⟩
  | _, _, _, .cons h is, p, r => by
    cases r with
    | cons r1 r2 =>
      rw [D.plains, Bool.and_eq_true] at p
      obtain ⟨as, q1, n1⟩ := Is.reads I sb h p.1 r1
      obtain ⟨bs, q2, n2⟩ := IsAll.reads I sb is p.2 r2
      refine ⟨_, .cons q1 q2, fun z => ?_⟩
      rw [D.noLsts, Bool.and_eq_true] at z
      intro hm
      rcases List.mem_append.mp hm with hm | hm
      · exact n1 z.1 hm
      · exact n2 z.2 hm
end
end
section
variable {P : Program} {w : World} {h : Heap}
/-- a value whose text repr tells -/
def Told (P : Program) (w : World) (h : Heap) (u : Value) (d : PyData) : Prop :=
  ∃ bs, ReadAtMost h d.depth bs ∧ ReprK P w bs h d.depth u d.shown
def ToldAll (P : Program) (w : World) (h : Heap) (us : List Value) (ds : List PyData) : Prop :=
  ∃ bs, ReadAtMost h (PyData.depthAll ds) bs ∧
    ReprAllK P w bs h (PyData.depthAll ds) us (PyData.shownAll ds)
theorem told_plain {u : Value} {d : PyData} {as : List Addr} (r : Reads h u d as)
    (ab : d.showable = true) (no : sysModules ∉ as) (sm : d.shown.length ≤ sizeLine) :
    Told P w h u d := ReprK.of_reads r ab (fun _ => no) sm
theorem ToldAll.add {u : Value} {us : List Value} {d : PyData} {ds : List PyData}
    (x : Told P w h u d) (y : ToldAll P w h us ds) : ToldAll P w h (u :: us) (d :: ds) := by
  obtain ⟨b1, h1, k1⟩ := x
  obtain ⟨b2, h2, k2⟩ := y
  have l1 : d.depth ≤ PyData.depthAll (d :: ds) := by
    rw [PyData.depthAll]; exact Nat.le_max_left _ _
  have l2 : PyData.depthAll ds ≤ PyData.depthAll (d :: ds) := by
    rw [PyData.depthAll]; exact Nat.le_max_right _ _
  refine ⟨b1 ++ b2, (h1.mono l1).append (h2.mono l2), ?_⟩
  rw [PyData.shownAll]
  exact .cons ((k1.more fun b => List.mem_append_left b2).level_le l1)
    (k2.more_le (fun b => List.mem_append_right b1) l2)
/-- the same of a list's or a tuple's items, with what its own repr needs -/
structure Within (P : Program) (w : World) (h : Heap) (a : Addr) (us : List Value)
    (ds : List PyData) (bs : List Addr) : Prop where
  most : ReadAtMost h (PyData.depthAll ds) bs
  all : ReprAllK P w bs h (PyData.depthAll ds) us (PyData.shownAll ds)
  out : a ∉ bs
theorem ToldAll.within {a : Addr} {us : List Value} {ds : List PyData} {d : PyData}
    {as : List Addr} (y : ToldAll P w h us ds) (r : Reads h (.ref a) d as)
    (hd : d.depth = PyData.depthAll ds + 1) : ∃ bs, Within P w h a us ds bs := by
  obtain ⟨bs, h1, k1⟩ := y
  exact ⟨bs, h1, k1, not_mem_of_deeper r (by omega) h1⟩
end
section
variable {X : Cx} {pins : List (Addr × Obj)} {σ : L2.St} {H B : Hp}
variable {s : Shared}
mutual
theorem Is.told (I : Inv X pins σ H s) (sb : Same B H) :
    ∀ {v : V} {d : D} {u : Value}, Is X.K B v d → d.plain = true → RelV v u →
      d.py.showable = true → d.py.shown.length ≤ sizeLine →
      Told X.prog X.w s.heap u d.py
  | _, _, _, .non, _, r, ab, sm => by
    cases r
    exact told_plain .none ab nofun sm
  | _, _, _, .bl b, _, r, ab, sm => by
    cases r
    exact told_plain (.bool b) ab nofun sm
  | _, _, _, .int i, _, r, ab, sm => by
    obtain ⟨t, rfl⟩ := r
    exact told_plain (.int i t) ab nofun sm
  | _, _, _, .str x, _, r, ab, sm => by
    obtain ⟨t, rfl⟩ := r
    exact told_plain (.str x t) ab nofun sm
  | _, _, _, .lst (ds := ds) hB is, p, r, ab, sm => by
    have rd := Is.reads I sb (.lst hB is) p r
    cases r
    obtain ⟨as, rd, _⟩ := rd
    obtain ⟨its, rv, ⟨o, n, ho, hc, _, hd⟩, _⟩ := I.list (SqL.of (sb _ _ hB))
    have sm : (listText (PyData.shownAll (D.pys ds))).length ≤ sizeLine := by
      rw [D.py, PyData.shown] at sm; exact sm
    obtain ⟨bs, W⟩ := (IsAll.told I sb is (by simpa [D.plain] using p) rv
      (by rw [D.py, PyData.showable] at ab; exact ab)
      fun t ht => Nat.le_trans (listText_mem_le ht) sm).within rd (by rw [D.py, PyData.depth])
    refine ⟨_, ReadAtMost.cons rd (by rw [D.py, PyData.depth]; omega) W.most, ?_⟩
    rw [D.py, PyData.depth, PyData.shown]
    cases its with
    | cons x q =>
      exact .list ho hc hd W.out (by simpa using W.all.length_eq)
        fun i y e => W.all.item i y (by simpa using e)
    | nil =>
      cases rv
      cases is
      exact .listEmpty ho hc hd
  | _, _, _, .tup (ds := ds) hB is c, p, r, ab, sm => by
    have rd := Is.reads I sb (.tup hB is c) p r
    cases r
    obtain ⟨as, rd, _⟩ := rd
    obtain ⟨its, rv, ⟨o, ho, hc, n, hd⟩, _⟩ := I.tuple (sameT sb hB)
    have sm : (tupleText (PyData.shownAll (D.pys ds))).length ≤ sizeLine := by
      rw [D.py, PyData.shown] at sm; exact sm
    obtain ⟨bs, W⟩ := (IsAll.told I sb is (by simpa [D.plain] using p) rv
      (by rw [D.py, PyData.showable] at ab; exact ab)
      fun t ht => Nat.le_trans (tupleText_mem_le ht) sm).within rd (by rw [D.py, PyData.depth])
    refine ⟨_, ReadAtMost.cons rd (by rw [D.py, PyData.depth]; omega) W.most, ?_⟩
    rw [D.py, PyData.depth, PyData.shown]
    exact .tuple ho hc hd W.out W.all
  | _, _, _, .dic hB, p, r, ab, sm => by
    obtain ⟨as, rd, no⟩ := Is.reads I sb (.dic hB) p r
    exact told_plain rd ab (no rfl) sm
  | _, _, _, .ins _ _, p, _, _, _ => by simp [D.plain] at p
  | _, _, _, .scr _, p, _, _, _ => by simp [D.plain] at p
  | _, _, _, .dct _ _ _, p, _, _, _ => by simp [D.plain] at p
theorem IsAll.told (I : Inv X pins σ H s) (sb : Same B H) :
    ∀ {vs : List V} {ds : List D} {us : List Value}, IsAll X.K B vs ds →
      D.plains ds = true → Vals vs us → PyData.showableAll (D.pys ds) = true →
      (∀ t ∈ PyData.shownAll (D.pys ds), t.length ≤ sizeLine) →
      ToldAll X.prog X.w s.heap us (D.pys ds)
  | _, _, _, .nil, _, r, _, _ => by
    cases r
    exact ⟨[], nofun, .nil⟩
  | _, _, _, .cons h is, p, r, ab, sm => by
    cases r with
    | cons r1 r2 =>
      rw [D.plains, Bool.and_eq_true] at p
      rw [D.pys, PyData.showableAll, Bool.and_eq_true] at ab
      rw [D.pys, PyData.shownAll] at sm
      exact ToldAll.add (Is.told I sb h p.1 r1 ab.1 (sm _ List.mem_cons_self))
        (IsAll.told I sb is p.2 r2 ab.2 fun t ht => sm t (List.mem_cons_of_mem _ ht))
end
end
/-- what can be shown -/
structure Shows (d : D) : Prop where
  plain : d.plain = true
  able : d.py.showable = true
  deep : d.py.depth ≤ 100
  small : d.py.shown.length ≤ sizeLine
def rRepr (K : PySem.W.Frag) : List V → Hp → VK → Prop := fun vs H Q =>
  ∃ v d B, vs = [v] ∧ Same B H ∧ Is K B v d ∧ Shows d ∧
    Q (.str d.py.shown) H
theorem call_reprD {X : Cx} {k : Nat} (hG : X.A.guards = some [])
    (hr : Room k X.A) : CallR X (.builtin "repr") (rRepr X.K) := by
  intro pins s σ H xs us Q I r h
  obtain ⟨v, d, B, rfl, sb, is, sh, q⟩ := h
  obtain ⟨u, rfl, ru⟩ := vals1 r
  have hun : X.A.units + 200 < cLine := by have := hr.un; omega
  have fin : ∀ h' t tk, (∀ b o, s.heap.get? b = some o → h'.get? b = some o) →
      EP X pins σ Q (.str d.py.shown t) { s with heap := h', toks := tk } :=
    fun h' t tk hk => ⟨.str d.py.shown, H, I.kept hk, ⟨t, rfl⟩, q⟩
  cases is with
  | non =>
    cases ru
    exact PySem.P.repr_of_none ⟨.str _, H, I.tok _, ⟨_, rfl⟩, q⟩
  | bl b =>
    cases ru
    exact PySem.P.repr_of_bool ⟨.str _, H, I.tok _, ⟨_, rfl⟩, q⟩
  | int i =>
    obtain ⟨t, rfl⟩ := ru
    have e : i.natAbs.log2 < 1920 := by
      have := sh.able
      simpa [D.py, PyData.showable] using this
    exact PySem.P.repr_of_int e ⟨.str _, H, I.tok _, ⟨_, rfl⟩, q⟩
  | str x =>
    obtain ⟨t, rfl⟩ := ru
    exact PySem.P.repr_of_str ⟨.str _, H, I.tok _, ⟨_, rfl⟩, q⟩ sh.small
  | @lst a ys ds h is =>
    cases ru
    obtain ⟨as, rd, _⟩ := Is.reads I sb (.lst h is) sh.plain rfl
    obtain ⟨its, rv, ⟨o, n, ho, hc, _, hd⟩, _⟩ := I.list (SqL.of (sb _ _ h))
    have sm : (listText (PyData.shownAll (D.pys ds))).length ≤ sizeLine := by
      have := sh.small
      rw [D.py, PyData.shown] at this; exact this
    obtain ⟨bs, W⟩ := (IsAll.told I sb is (by simpa [D.plain] using sh.plain) rv
      (by have := sh.able; rw [D.py, PyData.showable] at this; exact this)
      fun t ht => Nat.le_trans (listText_mem_le ht) sm).within rd (by rw [D.py, PyData.depth])
    have dp : PyData.depthAll (D.pys ds) + 1 ≤ 100 := by
      have := sh.deep
      rw [D.py, PyData.depth] at this; exact this
    refine call_repr_slot (by omega) ⟨o, ho, hc⟩ PySem.F.slot_list_repr.toG ?_
    have e : (D.lst ds).py.shown = listText (PyData.shownAll (D.pys ds)) := by
      rw [D.py, PyData.shown]
    cases its with
    | cons x q =>
      exact call_list_reprK ho hc hd W.out (by simpa using W.all.length_eq)
        (fun i y e => W.all.item i y (by simpa using e)) (A := X.A.in1) hG (fun b _ => Clear.nil b)
        (by show X.A.units + 1 + _ < cLine; omega) (fun _ _ e => e)
        (fun h' t tk hk => ⟨_, _, rfl, e ▸ fin h' t tk hk⟩) sm
    | nil =>
      cases rv
      cases is
      have := fin s.heap s.toks (s.toks + 1) fun _ _ e => e
      exact call_list_repr_empty ⟨o, ho, hc⟩ ho hd ⟨_, _, rfl, this⟩
  | @tup a ys ds h is hcl =>
    cases ru
    obtain ⟨as, rd, _⟩ := Is.reads I sb (.tup h is hcl) sh.plain rfl
    obtain ⟨its, rv, ⟨o, ho, hc, n, hd⟩, _⟩ := I.tuple (sameT sb h)
    have sm : (tupleText (PyData.shownAll (D.pys ds))).length ≤ sizeLine := by
      have := sh.small
      rw [D.py, PyData.shown] at this; exact this
    obtain ⟨bs, W⟩ := (IsAll.told I sb is (by simpa [D.plain] using sh.plain) rv
      (by have := sh.able; rw [D.py, PyData.showable] at this; exact this)
      fun t ht => Nat.le_trans (tupleText_mem_le ht) sm).within rd (by rw [D.py, PyData.depth])
    have dp : PyData.depthAll (D.pys ds) + 1 ≤ 100 := by
      have := sh.deep
      rw [D.py, PyData.depth] at this; exact this
    have e : (D.tup ds).py.shown = tupleText (PyData.shownAll (D.pys ds)) := by
      rw [D.py, PyData.shown]
    refine call_repr_slot (by omega) ⟨o, ho, hc⟩ PySem.F.slot_tuple_repr ?_
    exact call_tuple_reprK ho hc hd W.out W.all (A := X.A.in1) hG (fun b _ => Clear.nil b)
      (by show X.A.units + 1 + _ < cLine; omega) (fun _ _ e => e)
      (fun h' t tk hk => ⟨_, _, rfl, e ▸ fin h' t tk hk⟩) sm
  | @dic a kis h =>
    cases ru
    obtain ⟨as, rd, nl⟩ := Is.reads I sb (.dic h) sh.plain rfl
    exact repr_of_reads' rd sh.able (fun _ => nl rfl) hG
      (by have := sh.deep; omega) (fun _ _ e => e)
      (fun h' t tk hk => fin h' t tk hk) sh.small
  | ins h is => have := sh.plain; simp [D.plain] at this
  | scr h => have := sh.plain; simp [D.plain] at this
  | dct h _ is => have := sh.plain; simp [D.plain] at this
def D.isInt : D → Bool
  | .int _ => true
  | .bl _ => true
  | _ => false
def D.isBool : D → Bool
  | .bl _ => true
  | _ => false
def D.isTup : D → Bool
  | .tup _ => true
  | _ => false
def D.kind : D → String
  | .non => "NoneType"
  | .bl _ => "bool"
  | .int _ => "int"
  | .str _ => "str"
  | .lst _ => "list"
  | .tup _ => "tuple"
  | .dic _ => "dict"
  | .ins _ _ _ => "object"
  | .scr _ => "list"
  | .dct _ _ => "dict"
def D.own : D → Bool
  | .ins _ _ _ => true
  | .dct _ _ => true
  | _ => false
section
variable {K : PySem.W.Frag} {l : Option Addr} {ρ : Ro} {m : Nat}
variable {Φ : Nat → D → Prop} {Θ : Nat → Bool → Prop}
variable {ta te tl : TE} {t u : TT} {tA tK : TA}
variable {Z : Addr → Prop} {B H : Hp} {σ : L2.St}
theorem Is.ty {v : V} {d : D} (sb : Same B H) (h : Is K B v d)
    (n : d.own = false) : TyX K H v (.type d.kind) := by
  cases h with
  | non => exact .base .non
  | bl b => exact .base (.bl b)
  | int i => exact .base (.int i)
  | str x => exact .base (.str x)
  | lst h _ => exact .base (.lst (sb _ _ h))
  | tup h _ =>
    rcases h with (h | ⟨o, h⟩) | ⟨o, its, n, hk, hc, _⟩
    · exact .base (.tup (sb _ _ h))
    · exact .fTuple (sb _ _ h)
    · exact .kTuple hk hc
  | dic h =>
    rcases h with h | ⟨o, h⟩
    · exact .base (.dK (sb _ _ h))
    · exact .fDict (sb _ _ h)
  | ins _ _ => cases n
  | dct _ _ _ => cases n
  | scr h =>
    rcases h with ⟨o, h⟩ | ⟨o, its, n, hk, hc, _⟩
    · exact .base (.frz (sb _ _ h))
    · exact .kList hk hc
theorem e_isi {T : String} {g : D → Bool}
    (hg : ∀ d, d.own = false → kitB d.kind T = some (g d))
    (h : EvC K l ta ρ m fun m1 d => d.own = false ∧ Φ m1 (.bl (g d))) :
    EvC K l (tCB (rIsi K) (tCons ta (tCons (tC (.ty T)) tNil))) ρ m Φ := by
  intro Z B H σ Q ok k
  refine h Z B H σ _ ok fun v d m1 B1 H1 o1 f1 i1 g1 => ?_
  exact ⟨v, .ty T, _, _, g d, rfl, .ty T, i1.ty o1.sub g1.1,
    kit_ty (hg d g1.1), k _ _ m1 B1 H1 o1 f1 (.bl _) g1.2⟩
theorem kit_int (d : D) (h : d.own = false) :
    kitB d.kind "int" = some d.isInt := by
  cases d <;> first | (cases h; done) | (simp only [D.kind, D.isInt]; decide +kernel)
theorem kit_bool (d : D) (h : d.own = false) :
    kitB d.kind "bool" = some d.isBool := by
  cases d <;> first | (cases h; done) | (simp only [D.kind, D.isBool]; decide +kernel)
theorem kit_tup (d : D) (h : d.own = false) :
    kitB d.kind "tuple" = some d.isTup := by
  cases d <;> first | (cases h; done) | (simp only [D.kind, D.isTup]; decide +kernel)
abbrev rLenQ (K : PySem.W.Frag) : List V → Hp → VK → Prop := fun xs H Q =>
  ∃ p ys, xs = [.ref p] ∧ (SqL K H p ys ∨ SqT K H p ys) ∧
    Q (.int ys.length) H
abbrev rListQ (K : PySem.W.Frag) : List V → Hp → VK → Prop := fun xs H Q =>
  ∃ p ys, xs = [.ref p] ∧ (SqL K H p ys ∨ SqT K H p ys) ∧
    ∀ l, H l = none → Q (.ref l) (upd H l (.lst ys))
theorem isAll1 {vs : List V} {d : D} (h : IsAll K B vs [d]) :
    ∃ v, vs = [v] ∧ Is K B v d := by
  cases h with
  | cons h r => cases r; exact ⟨_, rfl, h⟩
theorem isAll2 {vs : List V} {d e : D} (h : IsAll K B vs [d, e]) :
    ∃ v w, vs = [v, w] ∧ Is K B v d ∧ Is K B w e := by
  cases h with
  | cons h r =>
    cases r with
    | cons h2 r => cases r; exact ⟨_, _, rfl, h, h2⟩
theorem v_repr {d : D} (s : Shows d) (q : Φ m (.str d.py.shown)) :
    VvC K l ρ (rRepr K) [d] m Φ := by
  intro Z B H σ vs Q ok is k
  obtain ⟨v, rfl, h⟩ := isAll1 is
  exact ⟨v, d, B, rfl, ok.sub, h, s, k _ _ m B H ok Fr.refl (.str _) q⟩
theorem v_lenT {ds : List D} (q : Φ m (.int ds.length)) :
    VvC K l ρ (fun xs H Q => ∃ p ys, xs = [.ref p] ∧
      (SqL K H p ys ∨ SqT K H p ys) ∧ Q (.int ys.length) H)
      [.tup ds] m Φ := by
  intro Z B H σ vs Q ok is k
  obtain ⟨v, rfl, h⟩ := isAll1 is
  cases h with
  | tup h r =>
    refine ⟨_, _, rfl, .inr (sameT ok.sub h), ?_⟩
    rw [r.length]
    exact k _ _ m B H ok Fr.refl (.int _) q
theorem v_lenL {ds : List D} (q : Φ m (.int ds.length)) :
    VvC K l ρ (fun xs H Q => ∃ p ys, xs = [.ref p] ∧
      (SqL K H p ys ∨ SqT K H p ys) ∧ Q (.int ys.length) H)
      [.lst ds] m Φ := by
  intro Z B H σ vs Q ok is k
  obtain ⟨v, rfl, h⟩ := isAll1 is
  cases h with
  | lst h r =>
    refine ⟨_, _, rfl, .inl (SqL.of (ok.sub _ _ h)), ?_⟩
    rw [r.length]
    exact k _ _ m B H ok Fr.refl (.int _) q
theorem v_lenS {ns : List Int} (q : Φ m (.int ns.length)) :
    VvC K l ρ (fun xs H Q => ∃ p ys, xs = [.ref p] ∧
      (SqL K H p ys ∨ SqT K H p ys) ∧ Q (.int ys.length) H)
      [.scr ns] m Φ := by
  intro Z B H σ vs Q ok is k
  obtain ⟨v, rfl, h⟩ := isAll1 is
  cases h with
  | scr h =>
    refine ⟨_, _, rfl, .inl (h.seq ok.sub), ?_⟩
    rw [List.length_map]
    exact k _ _ m B H ok Fr.refl (.int _) q
theorem v_listT {ds : List D} (q : Φ m (.lst ds)) :
    VvC K l ρ (fun xs H Q => ∃ p ys, xs = [.ref p] ∧
      (SqL K H p ys ∨ SqT K H p ys) ∧
      ∀ l, H l = none → Q (.ref l) (upd H l (.lst ys))) [.tup ds] m Φ := by
  intro Z B H σ vs Q ok is k
  obtain ⟨v, rfl, h⟩ := isAll1 is
  cases h with
  | tup h r =>
    refine ⟨_, _, rfl, .inr (sameT ok.sub h), fun p hp => ?_⟩
    obtain ⟨o2, f2⟩ := ok.new (o := .lst _) hp
    exact k _ _ m _ _ o2 f2 (.lst upd_same (r.mono f2.sub)) q
theorem v_tupL {ds : List D} (q : Φ m (.tup ds)) :
    VvC K l ρ (rTupC K) [.lst ds] m Φ := by
  intro Z B H σ vs Q ok is k
  obtain ⟨v, rfl, h⟩ := isAll1 is
  cases h with
  | lst h r =>
    refine ⟨_, _, rfl, .inl ⟨SqL.of (ok.sub _ _ h), fun p ob hp hd _ => ?_⟩⟩
    obtain ⟨o2, f2⟩ := ok.new (o := .frz ob (.tup _)) hp
    exact k _ _ m _ _ o2 f2 (.newT upd_same hd (r.mono f2.sub)) q
theorem bls_of : ∀ {vs : List V} {bs : List Bool},
    IsAll K B vs (bs.map D.bl) → vs = bs.map V.bl
  | _, [], h => by cases h; rfl
  | _, b :: bs, h => by
    cases h with
    | cons h r => cases h; rw [bls_of r]; rfl
theorem v_all {bs : List Bool} (q : Φ m (.bl (bs.all id))) :
    VvC K l ρ (rAll K) [.lst (bs.map D.bl)] m Φ := by
  intro Z B H σ vs Q ok is k
  obtain ⟨v, rfl, h⟩ := isAll1 is
  cases h with
  | lst h r =>
    have e := bls_of r
    subst e
    exact ⟨_, bs, rfl, SqL.of (ok.sub _ _ h),
      k _ _ m B H ok Fr.refl (.bl _) q⟩
theorem v_abs {i : Int} (q : Φ m (.int (if i < 0 then -i else i))) :
    VvC K l ρ (fun xs H Q => ∃ i, xs = [.int i] ∧
      Q (.int (if i < 0 then -i else i)) H) [.int i] m Φ := by
  intro Z B H σ vs Q ok is k
  obtain ⟨v, rfl, h⟩ := isAll1 is
  cases h
  exact ⟨i, rfl, k _ _ m B H ok Fr.refl (.int _) q⟩
theorem v_intB {b : Bool} (q : Φ m (.int (if b then 1 else 0))) :
    VvC K l ρ (fun xs H Q => (∃ i, xs = [.int i] ∧ Q (.int i) H) ∨
      ∃ k, xs = [.bl k] ∧ Q (.int (if k then 1 else 0)) H) [.bl b] m Φ := by
  intro Z B H σ vs Q ok is k
  obtain ⟨v, rfl, h⟩ := isAll1 is
  cases h
  exact .inr ⟨b, rfl, k _ _ m B H ok Fr.refl (.int _) q⟩
theorem v_max2 {i j : Int} (q : Φ m (.int (if j > i then j else i))) :
    VvC K l ρ (fun xs H Q => ∃ i j, xs = [.int i, .int j] ∧
      Q (.int (if j > i then j else i)) H) [.int i, .int j] m Φ := by
  intro Z B H σ vs Q ok is k
  obtain ⟨v, w, rfl, h, h2⟩ := isAll2 is
  cases h
  cases h2
  exact ⟨i, j, rfl, k _ _ m B H ok Fr.refl (.int _) q⟩
theorem v_min2 {i j : Int} (q : Φ m (.int (if j < i then j else i))) :
    VvC K l ρ (fun xs H Q => ∃ i j, xs = [.int i, .int j] ∧
      Q (.int (if j < i then j else i)) H) [.int i, .int j] m Φ := by
  intro Z B H σ vs Q ok is k
  obtain ⟨v, w, rfl, h, h2⟩ := isAll2 is
  cases h
  cases h2
  exact ⟨i, j, rfl, k _ _ m B H ok Fr.refl (.int _) q⟩
theorem atI_get {α : Type} {xs : List α} {i : Int} {x : α}
    (h0 : 0 ≤ i) (h : xs[i.toNat]? = some x) : atI xs i = some x := by
  have hl : i.toNat < xs.length := (List.getElem?_eq_some_iff.mp h).1
  unfold atI ixN
  rw [if_pos h0, if_pos (by omega)]
  exact h
theorem v_ixT {ds : List D} {i : Int} {d : D} (h0 : 0 ≤ i)
    (hd : ds[i.toNat]? = some d) (q : Φ m d) :
    VvC K l ρ (fun vs H Q => ∃ x y, vs = [x, y] ∧ rIxT K x y H Q)
      [.tup ds, .int i] m Φ := by
  intro Z B H σ vs Q ok is k
  obtain ⟨v, w, rfl, h, h2⟩ := isAll2 is
  cases h2
  cases h with
  | tup h r =>
    obtain ⟨x, e, z⟩ := r.got hd
    exact ⟨_, _, rfl, _, _, i, x, rfl, rfl, sameT ok.sub h, atI_get h0 e,
      k _ _ m B H ok Fr.refl z q⟩
theorem v_ixL {ds : List D} {i : Int} {d : D} (h0 : 0 ≤ i)
    (hd : ds[i.toNat]? = some d) (q : Φ m d) :
    VvC K l ρ (fun vs H Q => ∃ x y, vs = [x, y] ∧ rIxL K x y H Q)
      [.lst ds, .int i] m Φ := by
  intro Z B H σ vs Q ok is k
  obtain ⟨v, w, rfl, h, h2⟩ := isAll2 is
  cases h2
  cases h with
  | lst h r =>
    obtain ⟨x, e, z⟩ := r.got hd
    exact ⟨_, _, rfl, _, _, i, x, rfl, rfl, SqL.of (ok.sub _ _ h),
      atI_get h0 e, k _ _ m B H ok Fr.refl z q⟩
theorem v_ixS {ns : List Int} {i n : Int} (h0 : 0 ≤ i)
    (hd : ns[i.toNat]? = some n) (q : Φ m (.int n)) :
    VvC K l ρ (fun vs H Q => ∃ x y, vs = [x, y] ∧ rIxL K x y H Q)
      [.scr ns, .int i] m Φ := by
  intro Z B H σ vs Q ok is k
  obtain ⟨v, w, rfl, h, h2⟩ := isAll2 is
  cases h2
  cases h with
  | scr h =>
    refine ⟨_, _, rfl, _, _, i, .int n, rfl, rfl, h.seq ok.sub,
      atI_get h0 ?_, k _ _ m B H ok Fr.refl (.int n) q⟩
    rw [List.getElem?_map, hd]
    rfl
theorem v_catT {xs ys : List D} (hl : xs.length + ys.length ≤ 100000)
    (q : Φ m (.tup (xs ++ ys))) :
    VvC K l ρ (fun vs H Q => ∃ x y, vs = [x, y] ∧ rCatC K x y H Q)
      [.tup xs, .tup ys] m Φ := by
  intro Z B H σ vs Q ok is k
  obtain ⟨v, w, rfl, h, h2⟩ := isAll2 is
  cases h with
  | @tup a us _ h r c1 =>
    cases h2 with
    | @tup b ws _ h2 r2 c2 =>
      refine ⟨_, _, rfl, _, _, us, ws, rfl, rfl, sameT ok.sub h,
        sameT ok.sub h2, ?_, fun e => ?_, fun n e => ?_,
        fun n1 n2 p ob hp hd _ => ?_⟩
      · rw [r.length, r2.length]
        exact Nat.le_trans hl (by decide)
      · subst e
        cases r
        exact k _ _ m B H ok Fr.refl (.tup h2 r2 c2) q
      · subst e
        cases r2
        rw [List.append_nil] at q
        exact k _ _ m B H ok Fr.refl (.tup h r c1) q
      · obtain ⟨o2, f2⟩ := ok.new (o := .frz ob (.tup (us ++ ws))) hp
        exact k _ _ m _ _ o2 f2 (.newT upd_same hd
          ((r.mono f2.sub).append (r2.mono f2.sub))) q
theorem v_catL {xs ys : List D} (hl : xs.length + ys.length ≤ 100000)
    (q : Φ m (.lst (xs ++ ys))) :
    VvC K l ρ (fun vs H Q => ∃ x y, vs = [x, y] ∧ rCat x y H Q)
      [.lst xs, .lst ys] m Φ := by
  intro Z B H σ vs Q ok is k
  obtain ⟨v, w, rfl, h, h2⟩ := isAll2 is
  cases h with
  | @lst a us _ h r =>
    cases h2 with
    | @lst b ws _ h2 r2 =>
      refine ⟨_, _, rfl, _, _, us, ws, rfl, rfl, ok.sub _ _ h,
        ok.sub _ _ h2, ?_, fun p hp => ?_⟩
      · rw [r.length, r2.length]
        exact Nat.le_trans hl (by decide)
      · obtain ⟨o2, f2⟩ := ok.new (o := .lst (us ++ ws)) hp
        exact k _ _ m _ _ o2 f2 (.lst upd_same
          ((r.mono f2.sub).append (r2.mono f2.sub))) q
def cutD (xs : List D) (lo hi : Option Int) : List D :=
  (xs.drop (HT.sIx xs.length 0 lo)).take
    (HT.sIx xs.length xs.length hi - HT.sIx xs.length 0 lo)
theorem IsAll.cut {vs : List V} {ds : List D} (h : IsAll K B vs ds)
    (lo hi : Option Int) : IsAll K B (cutV vs lo hi) (cutD ds lo hi) := by
  unfold cutV cutD
  rw [h.length]
  exact (h.drop _).take _
/-- a part of a slice -/
def OvC (K : PySem.W.Frag) (l : Option Addr) (to : TO) (ρ : Ro) (m : Nat)
    (Φ : Nat → Option Int → Prop) : Prop :=
  ∀ Z B H σ (Q : Option Int → Hp → Prop), Ok K l Z m B H σ ρ →
    (∀ o m' B2 H2, Ok K l Z m' B2 H2 σ ρ → Fr Z B H B2 H2 →
      Φ m' o → Q o H2) → to σ H Q
theorem o_none {Φ : Nat → Option Int → Prop} (q : Φ m none) :
    OvC K l tNoPart ρ m Φ :=
  fun Z B H σ Q ok k => k none m B H ok Fr.refl q
theorem o_some {Φ : Nat → Option Int → Prop}
    (h : EvC K l te ρ m fun m1 d => ∃ i, d = .int i ∧ Φ m1 (some i)) :
    OvC K l (tPart te) ρ m Φ := by
  intro Z B H σ Q ok k
  refine h Z B H σ _ ok fun v d m1 B1 H1 o1 f1 i1 g1 => ?_
  obtain ⟨i, rfl, g⟩ := g1
  cases i1
  exact ⟨i, rfl, k _ m1 B1 H1 o1 f1 g⟩
theorem e_slT {tl th : TO}
    (h : EvC K l te ρ m fun m1 x => OvC K l tl ρ m1 fun m2 lo =>
      OvC K l th ρ m2 fun m3 hi => ∃ ds, x = .tup ds ∧
        Φ m3 (.tup (cutD ds lo hi))) :
    EvC K l (tSl (rSlC K) te tl th) ρ m Φ := by
  intro Z B H σ Q ok k
  refine h Z B H σ _ ok fun v x m1 B1 H1 o1 f1 i1 g1 => ?_
  refine g1 Z B1 H1 σ _ o1 fun lo m2 B2 H2 o2 f2 g2 => ?_
  refine g2 Z B2 H2 σ _ o2 fun hi m3 B3 H3 o3 f3 g3 => ?_
  obtain ⟨ds, rfl, q⟩ := g3
  have i3 := i1.mono (f2.trans f3).sub
  have f13 := f1.trans (f2.trans f3)
  cases i3 with
  | @tup a us _ h r hcl =>
    refine ⟨a, us, rfl, sameT o3.sub h, fun e => ?_, fun _ p ob hp hd _ => ?_⟩
    · have w : cutD ds lo hi = ds := by
        rw [r.length] at e
        unfold cutD
        rw [e.1, e.2, List.drop_zero, Nat.sub_zero, List.take_length]
      rw [w] at q
      exact k _ _ m3 B3 H3 o3 f13 (.tup h r hcl) q
    · obtain ⟨o4, f4⟩ := o3.new (o := .frz ob (.tup (cutV us lo hi))) hp
      exact k _ _ m3 _ _ o4 (f13.trans f4) (.newT upd_same hd
        ((r.mono f4.sub).cut lo hi)) q
/-- x in t, flat things -/
def D.flat : D → Bool
  | .non => true
  | .bl _ => true
  | .int _ => true
  | .str _ => true
  | _ => false
def D.v : D → V
  | .bl b => .bl b
  | .int i => .int i
  | .str x => .str x
  | _ => .non
theorem Is.flat {v : V} {d : D} (h : Is K B v d) (f : d.flat = true) :
    v = d.v ∧ flatV v = true := by
  cases h <;> first | exact ⟨rfl, rfl⟩ | (simp [D.flat] at f)
theorem IsAll.flat : ∀ {vs : List V} {ds : List D}, IsAll K B vs ds →
    ds.all D.flat = true → vs = ds.map D.v ∧ vs.all flatV = true
  | _, _, .nil, _ => ⟨rfl, rfl⟩
  | _, _, .cons h r, f => by
    rw [List.all_cons, Bool.and_eq_true] at f
    obtain ⟨e1, q1⟩ := h.flat f.1
    obtain ⟨e2, q2⟩ := IsAll.flat r f.2
    refine ⟨?_, ?_⟩
    · rw [List.map_cons, ← e1, ← e2]
    · rw [List.all_cons, q1, q2]
      rfl
theorem e_dic0 (q : Φ m (.dic [])) : EvC K l tDNewK ρ m Φ := by
  intro Z B H σ Q ok k p hp
  obtain ⟨o2, f2⟩ := ok.new (o := .dK []) hp
  exact k _ _ m _ _ o2 f2 (.dic (.inl upd_same)) q
/-- {i: j} of whole numbers -/
theorem e_dic1 {i j : Int} (q : Φ m (.dic [(i, j)])) :
    EvC K l (tDisp [(tC (.int i), tC (.int j))]) ρ m Φ := by
  intro Z B H σ Q ok k p hp
  refine ⟨upd_same, [(Sum.inl i, .int j)], rfl, by simp, ?_⟩
  rw [upd_upd]
  obtain ⟨o2, f2⟩ := ok.new (o := .dK [(Sum.inl i, .int j)]) hp
  exact k _ _ m _ _ o2 f2 (.dic (kis := [(i, j)]) (.inl upd_same)) q
end
section
variable {X : Cx} {CX : CXT} {k : Nat} {f : Addr} {fd : FuncData}
variable {ps ks : List Str} {sp : Sp} {E : XK} {x : Str} {p pos : Pos}
variable {kws : List Keyword} {tk : TA}
variable {g : List Value → List Value → List Value}
variable {gV : List V → List V → List V}
/-- ** of greater numbers -/
def CPowW (i j : Int) : Prop :=
  0 ≤ j ∧ (Builtin.Int.intBits i : Int) * j ≤ 2 ^ 27
theorem op_powW : OpR X (binaryOp .Pow)
    (rI CPowW fun i j => .int (i ^ j.toNat)) :=
  opI fun _ _ _ _ _ _ _ hc q => pow_int hc.1 hc.2 q
end
end Wt

namespace Wt
open PySem PySem.Spec PyProof.Rows L2
/-- a def that reads data and tells some data -/
def SpR (K : PySem.W.Frag) (pre : List D → Prop)
    (Ψ : List D → D → Prop) : Sp :=
  fun vs H Q _ => ∃ B ds, SameB B H ∧ IsAll K B vs ds ∧ pre ds ∧
    ∀ v d B2 H2, Same B B2 → SameN H H2 → SameB B2 H2 →
      (∀ a, H a ≠ none → B a = none → B2 a = none) →
      Ψ ds d → Is K B2 v d → Q v H2
section
variable {K : PySem.W.Frag} {l : Option Addr} {ρ : Ro} {m : Nat}
variable {Φ : Nat → D → Prop} {Θ : Nat → Bool → Prop}
variable {Nx : Nat → Ro → Prop} {Rt : Nat → D → Prop} {ts tb : TS}
variable {ta te tl : TE} {t u : TT} {tA tK : TA}
variable {Z : Addr → Prop} {B H : Hp} {σ : L2.St}
theorem e_callR {pre : List D → Prop} {Ψ : List D → D → Prop} {E : XK}
    (h : AvC K l tA ρ m fun m1 ds => pre ds ∧ ∀ d, Ψ ds d → Φ m1 d) :
    EvC K l (tCall (SpR K pre Ψ) [] E tA) ρ m Φ := by
  intro Z B H σ Q ok k
  refine h Z B H σ _ ok fun vs ds m1 B1 H1 o1 f1 i1 g1 => ?_
  rw [List.append_nil]
  refine ⟨B1, ds, ⟨o1.sub, o1.tab⟩, i1, g1.1, fun v d B2 H2 s1 s2 s3 fr p iv => ?_⟩
  obtain ⟨o2, f2⟩ := o1.step (m' := m1) s1 s3
    (fun a e => by
      obtain ⟨g, s, c, q, r⟩ := (o1.hand a e).1
      exact ⟨g, s, c, s2 _ _ (o1.tab.ntLst q) q, r⟩)
    (fun a o n e => s2 a o n.2 e) fr
  exact k v _ m1 B2 H2 o2 (f1.trans f2) iv (g1.2 d p)
theorem body_R {pre : List D → Prop} {Ψ : List D → D → Prop} {vs : List V}
    {Q : VK} {E : XK} {N : List Str} (h : SpR K pre Ψ vs H Q E)
    (hb : ∀ ds, pre ds → vs.length = ds.length →
      SvC K none ts (datR ds ++ List.replicate (N.length - ds.length) none)
        0 (fun _ _ => Ψ ds .non) fun _ d => Ψ ds d) :
    ts { nx := fun _ H' => Q .non H', rt := Q } (L2.start N vs) H := by
  obtain ⟨B, ds, sb, is, hp, k⟩ := h
  have ex : ∀ d, Ψ ds d → SpP K (fun x => x = ds) (fun _ => d) vs H Q E := by
    intro d hd
    exact ⟨B, ds, sb, is, rfl, fun v B2 H2 s1 s2 s3 fr iv =>
      k v d B2 H2 s1 s2 s3 fr hd iv⟩
  have hl := is.length
  have ok : Ok K none (fun a => H a ≠ none ∧ B a = none ∧ NTab a) 0 B H
      (L2.start N vs) (datR ds ++ List.replicate (N.length - ds.length) none) := by
    refine ⟨⟨sb.1, fun a e => (nomatch e), fun z h => ⟨h.1, h.2.1, nofun, h.2.2⟩, sb.2⟩,
      ?_, fun i s e => ?_, fun i j ds1 es a n po p2 e1 => ?_⟩
    · unfold L2.start datR
      simp [hl]
    · rcases Nat.lt_or_ge i ds.length with hi | hi
      · rw [List.getElem?_append_left (by unfold datR; simpa using hi)] at e
        obtain ⟨v, e2, q⟩ := isAll_get (l := none)
          (Z := fun a => H a ≠ none ∧ B a = none ∧ NTab a) (H := H) is e
        refine ⟨v, ?_, q⟩
        unfold L2.start
        rw [List.getElem?_append_left (by simpa [hl] using hi)]
        exact e2
      · rw [List.getElem?_append_right (by unfold datR; simpa using hi)] at e
        rw [List.getElem?_replicate] at e
        split at e <;> cases e
    · rcases Nat.lt_or_ge i ds.length with hi | hi
      · rw [List.getElem?_append_left (by unfold datR; simpa using hi)] at e1
        unfold datR at e1
        rw [List.getElem?_map] at e1
        cases q : ds[i]? with
        | none => rw [q] at e1; cases e1
        | some d => rw [q] at e1; cases e1; cases po
      · rw [List.getElem?_append_right (by unfold datR; simpa using hi)] at e1
        rw [List.getElem?_replicate] at e1
        split at e1 <;> cases e1
  have fin : ∀ v d m' B2 H2, Bs none (fun a => H a ≠ none ∧ B a = none ∧ NTab a) m' B2 H2 →
      Fr (fun a => H a ≠ none ∧ B a = none ∧ NTab a) B H B2 H2 → Is K B2 v d →
      Ψ ds d → Q v H2 := by
    intro v d m' B2 H2 o2 f2 i2 e
    refine k v d B2 H2 f2.sub (fun b o nt e => ?_) ⟨o2.sub, o2.tab⟩
      (fun a h1 h2 => (Classical.em (NTab a)).elim (fun nt => (o2.zs a ⟨h1, h2, nt⟩).2.1) fun nt => o2.tab.out nt) e i2
    cases q : B b with
    | none => rw [f2.kept b ⟨by rw [e]; exact nofun, q, nt⟩]; exact e
    | some x =>
      rw [sb.1 b x q] at e
      cases e
      exact o2.sub b _ (f2.sub b _ q)
  exact hb ds hp hl _ B H _ _ ok
    (fun σ' ρ' m' B2 H2 o2 f2 g2 => fin .non .non m' B2 H2 o2.toBs f2 .non g2)
    fin
theorem s_aug {i : Nat} {r : R2} {d : D}
    (hi : ρ[i]? = some (some (.dat d)))
    (h : EvC K l te ρ m fun m1 y => VvC K l ρ
      (fun vs H Q => ∃ x y, vs = [x, y] ∧ r x y H Q) [d, y] m1
      fun m2 z => Nx m2 (ρ.set i (some (.dat z)))) :
    SvC K l (tAug i te r) ρ m Nx Rt := by
  intro Z B H σ W ok k _
  obtain ⟨v, e, z⟩ := ok.sl i _ hi
  refine ⟨v, e, h Z B H σ _ ok fun v2 y m1 B1 H1 o1 f1 i1 g1 => ?_⟩
  obtain ⟨x, y, e2, q⟩ := g1 Z B1 H1 σ [v, v2]
    (fun z H2 => W.nx (σ.set i (some z)) H2) o1
    (.cons (Is.mono f1.sub z) (.cons i1 .nil))
    fun v3 d3 m2 B2 H2 o2 f2 i2 g2 =>
      k _ _ m2 B2 H2 (o2.set i2) (f1.trans f2) g2
  cases e2
  exact q
theorem s_par {i j : Nat} (h : AvC K l tA ρ m fun m1 ds => ∃ x y,
      ds = [x, y] ∧
      Nx m1 ((ρ.set i (some (.dat x))).set j (some (.dat y)))) :
    SvC K l (tPar i j tA) ρ m Nx Rt := by
  intro Z B H σ W ok k _
  refine h Z B H σ _ ok fun vs ds m1 B1 H1 o1 f1 i1 g1 => ?_
  obtain ⟨x, y, rfl, q⟩ := g1
  obtain ⟨v, w, rfl, h1, h2⟩ := isAll2 i1
  exact ⟨v, w, rfl, k _ _ m1 B1 H1 ((o1.set h1).set h2) f1 q⟩
theorem e_hand0 {i : Nat} (hi : ρ[i]? = some (some .hand))
    (q : ∀ g : Int, 0 ≤ g → g < 10 ^ 600 → Φ m (.int g)) :
    EvC K l (tOp (rIxL K) (tVar i) (tC (.int 0))) ρ m Φ := by
  intro Z B H σ Q ok k
  obtain ⟨v, e, a, ha, rfl⟩ := ok.sl i _ hi
  obtain ⟨g, s, c, e2, a1, a2, a3, a4, a5, a6⟩ := (ok.hand a ha).1
  exact ⟨_, e, a, _, 0, _, rfl, rfl, SqL.of e2, rfl,
    k _ _ m B H ok Fr.refl (.int g) (q g a1 a2)⟩
theorem e_hand1 {i : Nat} (hi : ρ[i]? = some (some .hand))
    (q : ∀ s : Int, 0 ≤ s → s < 2 ^ 61 → Φ m (.int s)) :
    EvC K l (tOp (rIxL K) (tVar i) (tC (.int 1))) ρ m Φ := by
  intro Z B H σ Q ok k
  obtain ⟨v, e, a, ha, rfl⟩ := ok.sl i _ hi
  obtain ⟨g, s, c, e2, a1, a2, a3, a4, a5, a6⟩ := (ok.hand a ha).1
  exact ⟨_, e, a, _, 1, _, rfl, rfl, SqL.of e2, rfl,
    k _ _ m B H ok Fr.refl (.int s) (q s a3 a4)⟩
theorem e_hand2 {i : Nat} (hi : ρ[i]? = some (some .hand))
    (q : ∀ c : Int, 0 ≤ c → c ≤ m → Φ m (.int c)) :
    EvC K l (tOp (rIxL K) (tVar i) (tC (.int 2))) ρ m Φ := by
  intro Z B H σ Q ok k
  obtain ⟨v, e, a, ha, rfl⟩ := ok.sl i _ hi
  obtain ⟨g, s, c, e2, a1, a2, a3, a4, a5, a6⟩ := (ok.hand a ha).1
  exact ⟨_, e, a, _, 2, _, rfl, rfl, SqL.of e2, rfl,
    k _ _ m B H ok Fr.refl (.int c) (q c a5 a6)⟩
theorem Ok.hands {a : Addr} {n : Nat} {xs : List V}
    (h : Ok K l Z m B H σ ρ) (ha : l = some a)
    (hh : Hand (upd H a (.lst xs)) a n) :
    Ok K l Z n B (upd H a (.lst xs)) σ ρ ∧ Fr Z B H B (upd H a (.lst xs)) := by
  have nt : NTab a := by
    obtain ⟨g, s, c, q, _⟩ := (h.hand a ha).1
    exact h.tab.ntLst q
  refine h.step (Same.refl B) ⟨fun b x e => ?_, h.tab.write nt⟩ (fun b e => ?_)
    (fun b x n e => ?_) (fun b _ e => e)
  · have n : b ≠ a := fun z => by
      subst z; rw [(h.hand b ha).2] at e; cases e
    rw [upd_ne n]
    exact h.sub b x e
  · rw [ha] at e
    cases e
    exact hh
  · have n : b ≠ a := fun z => n.1 (z ▸ ha)
    rw [upd_ne n]
    exact e
theorem s_hand0 {i : Nat} (hi : ρ[i]? = some (some .hand))
    (h : EvC K l te ρ m fun m1 d => ∃ g : Int, d = .int g ∧ 0 ≤ g ∧
      g < 10 ^ 600 ∧ Nx m1 ρ) :
    SvC K l (tAsg te (gSub (tVar i) (tC (.int 0)) rSetL)) ρ m Nx Rt := by
  intro Z B H σ W ok k _
  refine h Z B H σ _ ok fun v d m1 B1 H1 o1 f1 i1 g1 => ?_
  obtain ⟨g', rfl, b1, b2, q⟩ := g1
  cases i1
  obtain ⟨v, e, a, ha, rfl⟩ := o1.sl i _ hi
  obtain ⟨g, s, c, e2, a1, a2, a3, a4, a5, a6⟩ := (o1.hand a ha).1
  refine ⟨_, e, a, _, 0, 0, rfl, rfl, e2, rfl, ?_⟩
  obtain ⟨o2, f2⟩ := o1.hands (n := m1) ha
    ⟨g', s, c, upd_same, b1, b2, a3, a4, a5, a6⟩
  exact k _ _ m1 B1 _ o2 (f1.trans f2) q
theorem s_hand2 {i : Nat} (hi : ρ[i]? = some (some .hand))
    (h : EvC K l te ρ m fun m1 d => ∃ (c : Int) (n : Nat), d = .int c ∧
      0 ≤ c ∧ c ≤ n ∧ Nx n ρ) :
    SvC K l (tAsg te (gSub (tVar i) (tC (.int 2)) rSetL)) ρ m Nx Rt := by
  intro Z B H σ W ok k _
  refine h Z B H σ _ ok fun v d m1 B1 H1 o1 f1 i1 g1 => ?_
  obtain ⟨c', n, rfl, b1, b2, q⟩ := g1
  cases i1
  obtain ⟨v, e, a, ha, rfl⟩ := o1.sl i _ hi
  obtain ⟨g, s, c, e2, a1, a2, a3, a4, a5, a6⟩ := (o1.hand a ha).1
  refine ⟨_, e, a, _, 2, 2, rfl, rfl, e2, rfl, ?_⟩
  obtain ⟨o2, f2⟩ := o1.hands (n := n) ha
    ⟨g, s, c', upd_same, a1, a2, a3, a4, b1, b2⟩
  exact k _ _ n B1 _ o2 (f1.trans f2) q
/-- what _law_hand tells -/
def isHand (d : D) : Prop := ∃ g s : Int, d = .lst [.int g, .int s, .int 0] ∧
  0 ≤ g ∧ g < 10 ^ 600 ∧ 0 ≤ s ∧ s < 2 ^ 61
/-- an item of a list or a tuple -/
def D.items : D → Option (List D)
  | .lst xs => some xs
  | .tup xs => some xs
  | _ => none
theorem v_ixA {c d : D} {ds : List D} {i : Int} (hc : c.items = some ds)
    (h0 : 0 ≤ i) (hd : ds[i.toNat]? = some d) (q : Φ m d) :
    VvC K l ρ (fun vs H Q => ∃ x y, vs = [x, y] ∧ rIx K x y H Q)
      [c, .int i] m Φ := by
  intro Z B H σ vs Q ok is k
  cases c with
  | lst xs =>
    cases hc
    obtain ⟨x, y, e, z⟩ := v_ixL h0 hd q Z B H σ vs Q ok is k
    exact ⟨x, y, e, .inl z⟩
  | tup xs =>
    cases hc
    obtain ⟨x, y, e, z⟩ := v_ixT h0 hd q Z B H σ vs Q ok is k
    exact ⟨x, y, e, .inr (.inl z)⟩
  | _ => cases hc
theorem v_lenA {c : D} {ds : List D} (hc : c.items = some ds)
    (q : Φ m (.int ds.length)) :
    VvC K l ρ (fun xs H Q => ∃ p ys, xs = [.ref p] ∧
      (SqL K H p ys ∨ SqT K H p ys) ∧ Q (.int ys.length) H) [c] m Φ := by
  cases c with
  | lst xs => cases hc; exact v_lenL q
  | tup xs => cases hc; exact v_lenT q
  | _ => cases hc
theorem v_neg {i : Int} (q : Φ m (.int (-i))) :
    VvC K l ρ (fun vs H Q => ∃ x, vs = [x] ∧ rU (fun i => .int (-i)) x H Q)
      [.int i] m Φ := by
  intro Z B H σ vs Q ok is k
  obtain ⟨v, rfl, h⟩ := isAll1 is
  cases h
  exact ⟨_, rfl, i, rfl, k _ _ m B H ok Fr.refl (.int _) q⟩
def Sl.isHand : Option Sl → Bool
  | some .hand => true
  | _ => false
theorem noCode {b : Addr} {q : Str} {xs : List V} : LamX.CodeO b q ≠ .lst xs := fun z => by
  unfold LamX.CodeO at z
  cases z
/-- the script and the tables' code objects, all else left out -/
theorem handB0 {s : Addr} {xs : List V} (tab : Tb B H) (hs : Scr K B s xs) : ∃ B0 : Hp, Same B0 B ∧ Scr K B0 s xs ∧
    (∀ b x, B0 b = some x → (∃ o u, x = .frz o u) ∨ ∃ q, x = LamX.CodeO b q) ∧ Tb B0 H := by
  classical
  refine ⟨fun b => if (b = s ∧ ∃ o u, B s = some (.frz o u)) ∨ ∃ q, B b = some (LamX.CodeO b q) then B b else none, fun b x e => ?_, ?_, fun b x e => ?_, fun p hp => ?_⟩
  · dsimp only at e
    split at e
    · exact e
    · cases e
  · rcases hs with ⟨o, q⟩ | q
    · exact .inl ⟨o, (if_pos (.inl ⟨rfl, _, _, q⟩)).trans q⟩
    · exact .inr q
  · dsimp only at e
    split at e
    · rename_i w
      rcases w with ⟨rfl, o, u, w⟩ | ⟨q, w⟩
      · exact .inl ⟨o, u, Option.some.inj (e.symm.trans w)⟩
      · exact .inr ⟨q, Option.some.inj (e.symm.trans w)⟩
    · cases e
  · obtain ⟨q0, ps, q1, q2, q3⟩ := tab p hp
    refine ⟨?_, ps, q1, q2, fun pos cv hc => ?_⟩
    · dsimp only
      split
      · exact q0
      · rfl
    · obtain ⟨c, w1, w2⟩ := q3 pos cv hc
      exact ⟨c, w1, (if_pos (.inr ⟨_, w2⟩)).trans w2⟩
/-- what was known, with the code objects that are new -/
theorem handB1 {B0 B2 H2 : Hp} {a : Addr} {xs : List V} (sub : Same B H) (tab : Tb B H) (s0 : Same B0 B) (f2 : SameN H H2) (f3 : SameB B2 H2) (f4 : ∀ b, H b ≠ none → B0 b = none → B2 b = none)
    (ha : B2 a = some (.lst xs)) (hB : B a = none) :
    ∃ B' : Hp, Same B B' ∧ Same B' H2 ∧ (∀ b, B b = none → H b ≠ none → B' b = none) ∧ B' a = none ∧ Tb B' H2 := by
  have ntB : ∀ {b o}, B b = some o → NTab b := fun {b o} e => Classical.byContradiction fun n => by
    rw [tab.out n] at e
    cases e
  classical
  refine ⟨fun b => if B b = none ∧ ∃ q, B2 b = some (LamX.CodeO b q) then B2 b else B b, fun b x e => ?_, fun b x e => ?_, fun b e1 e2 => ?_, ?_, fun p hp => ?_⟩
  · dsimp only
    rw [if_neg fun w => by rw [w.1] at e; cases e]
    exact e
  · dsimp only at e
    split at e
    · exact f3.1 _ _ e
    · exact f2 _ _ (ntB e) (sub _ _ e)
  · have n0 : B0 b = none := by
      cases w : B0 b with
      | none => rfl
      | some x => rw [s0 _ _ w] at e1; cases e1
    dsimp only
    rw [if_neg fun w => by
      obtain ⟨_, q, w⟩ := w
      rw [f4 b e2 n0] at w
      cases w]
    exact e1
  · dsimp only
    rw [if_neg fun w => by
      obtain ⟨_, q, w⟩ := w
      rw [ha] at w
      exact noCode (Option.some.inj w).symm]
    exact hB
  · obtain ⟨q0, ps, q1, q2, q3⟩ := f3.2 p hp
    refine ⟨?_, ps, q1, q2, fun pos cv hc => ?_⟩
    · dsimp only
      rw [if_neg fun w => by
        obtain ⟨_, q, w⟩ := w
        rw [q0] at w
        cases w]
      exact (tab p hp).1
    · obtain ⟨c, w1, w2⟩ := q3 pos cv hc
      refine ⟨c, w1, ?_⟩
      dsimp only
      split
      · exact w2
      · rename_i z
        cases w : B c with
        | none => exact absurd ⟨w, _, w2⟩ z
        | some x =>
          have e1 := f2 _ _ (ntB w) (sub _ _ w)
          rw [f3.1 _ _ w2] at e1
          exact e1.symm
end
open Classical in
/-- the law's promise where the law's call begins: the script's heap, and empty tables -/
theorem law_startT {K : PySem.W.Frag} {H : Hp} {a : Addr} {ns : List Int}
    {E : XK} (hO : ∀ b, H b = none ∨ (∃ o xs, H b = some (.frz o (.lst xs))) ∨ H b = some (.tbl #[])) (hT : ∀ p ∈ tabs, H p.1 = some (.tbl #[])) (hS : SqL K H a (ns.map V.int)) :
    SpP K (fun ds => ∃ ns, ds = [.scr ns]) (fun _ => .bl true) [.ref a] H
      (fun v _ => v = .bl true) E := by
  have hs : Scr K (fun b => if H b = some (.tbl #[]) then none else H b) a (ns.map V.int) := by
    rcases hS with (h | ⟨o, h⟩) | h
    · rcases hO a with z | ⟨o, xs, z⟩ | z
      · rw [z] at h; cases h
      · rw [z] at h; cases h
      · rw [z] at h; cases h
    · refine .inl ⟨o, ?_⟩
      dsimp only
      rw [if_neg fun z => by rw [h] at z; cases z]
      exact h
    · exact .inr h
  refine ⟨fun b => if H b = some (.tbl #[]) then none else H b, [.scr ns], ⟨fun b x e => ?_, fun p hp => ⟨if_pos (hT p hp), #[], hT p hp, trivial, fun pos cv hc => ?_⟩⟩, .cons (.scr hs) .nil, ⟨ns, rfl⟩, ?_⟩
  · dsimp only at e
    split at e
    · cases e
    · exact e
  · have z : codeAmong pos [] = some cv := hc
    simp [codeAmong] at z
  · intro v B2 H2 _ _ _ _ iv
    cases iv
    rfl
end Wt

namespace Wt
open PySem PySem.Spec PyProof.Rows L2
theorem pys_map (xs : List D) : D.pys xs = xs.map D.py := by
  induction xs with
  | nil => rfl
  | cons x r ih => rw [D.pys, ih]; rfl
theorem plains_all (xs : List D) : D.plains xs = xs.all D.plain := by
  induction xs with
  | nil => rfl
  | cons x r ih => rw [D.plains, ih]; rfl
theorem showableAll_all (xs : List PyData) :
    PyData.showableAll xs = xs.all PyData.showable := by
  induction xs with
  | nil => rfl
  | cons x r ih => rw [PyData.showableAll, ih]; rfl
theorem leavesShortAll_all (b : Nat) (xs : List PyData) :
    PyData.leavesShortAll b xs = xs.all (PyData.leavesShort b) := by
  induction xs with
  | nil => rfl
  | cons x r ih => rw [PyData.leavesShortAll, ih]; rfl
theorem depthAll_le {k : Nat} : ∀ (xs : List PyData),
    (∀ x ∈ xs, x.depth ≤ k) → PyData.depthAll xs ≤ k
  | [], _ => by simp [PyData.depthAll]
  | x :: r, h => by
    have h1 := h x List.mem_cons_self
    have h2 := depthAll_le r fun y hy => h y (List.mem_cons_of_mem _ hy)
    simp only [PyData.depthAll]
    omega
theorem weightAll_le {k : Nat} : ∀ (xs : List PyData),
    (∀ x ∈ xs, x.weight ≤ k) → PyData.weightAll xs ≤ (k + 1) * xs.length
  | [], _ => by simp [PyData.weightAll]
  | x :: r, h => by
    have h1 := h x List.mem_cons_self
    have h2 := weightAll_le r fun y hy => h y (List.mem_cons_of_mem _ hy)
    simp only [PyData.weightAll, List.length_cons]
    rw [Nat.mul_add, Nat.mul_one]
    omega
/-- a part that can be shown, of at most so deep and so much -/
structure Itm (k w : Nat) (d : D) : Prop where
  plain : d.plain = true
  able : d.py.showable = true
  deep : d.py.depth ≤ k
  short : d.py.leavesShort 60 = true
  wt : d.py.weight ≤ w
def itmB (k w : Nat) (d : D) : Bool :=
  d.plain && d.py.showable && decide (d.py.depth ≤ k) &&
    d.py.leavesShort 60 && decide (d.py.weight ≤ w)
theorem Itm.of {k w : Nat} {d : D} (h : itmB k w d = true) : Itm k w d := by
  unfold itmB at h
  simp only [Bool.and_eq_true, decide_eq_true_eq] at h
  exact ⟨h.1.1.1.1, h.1.1.1.2, h.1.1.2, h.1.2, h.2⟩
theorem Itm.mono {k w k' w' : Nat} {d : D} (h : Itm k w d) (hk : k ≤ k')
    (hw : w ≤ w') : Itm k' w' d :=
  ⟨h.plain, h.able, Nat.le_trans h.deep hk, h.short, Nat.le_trans h.wt hw⟩
theorem Itm.shows {k w : Nat} {d : D} (h : Itm k w d) (hk : k ≤ 100)
    (hw : w ≤ 200000) (_ : d.py.hasDict = true → d.noLst = true) :
    Shows d := by
  refine ⟨h.plain, h.able, Nat.le_trans h.deep hk, ?_⟩
  have q := PyData.shown_le 60 (by decide) d.py h.short
  have := h.wt
  rw [sizeLine_eq]
  omega
theorem Itm.show {k w : Nat} {d : D} (h : Itm k w d) (hk : k ≤ 100)
    (hw : w ≤ 200000) : Shows d := by
  refine ⟨h.plain, h.able, Nat.le_trans h.deep hk, ?_⟩
  have q := PyData.shown_le 60 (by decide) d.py h.short
  have := h.wt
  rw [sizeLine_eq]
  omega
theorem Itm.tup {k w : Nat} {xs : List D} (h : ∀ x ∈ xs, Itm k w x) :
    Itm (k + 1) ((w + 1) * xs.length) (.tup xs) := by
  refine ⟨?_, ?_, ?_, ?_, ?_⟩
  · rw [D.plain, plains_all, List.all_eq_true]
    exact fun x hx => (h x hx).plain
  · rw [D.py, PyData.showable, pys_map, showableAll_all, List.all_map,
      List.all_eq_true]
    exact fun x hx => (h x hx).able
  · have := depthAll_le (k := k) (D.pys xs) (fun x hx => by
      rw [pys_map] at hx
      obtain ⟨y, hy, rfl⟩ := List.mem_map.mp hx
      exact (h y hy).deep)
    simp only [D.py, PyData.depth]
    omega
  · rw [D.py, PyData.leavesShort, pys_map, leavesShortAll_all, List.all_map,
      List.all_eq_true]
    exact fun x hx => (h x hx).short
  · have := weightAll_le (k := w) (D.pys xs) (fun x hx => by
      rw [pys_map] at hx
      obtain ⟨y, hy, rfl⟩ := List.mem_map.mp hx
      exact (h y hy).wt)
    rw [pys_map, List.length_map] at this
    simp only [D.py, PyData.weight, pys_map]
    omega
theorem Itm.lst {k w : Nat} {xs : List D} (h : ∀ x ∈ xs, Itm k w x) :
    Itm (k + 1) ((w + 1) * xs.length) (.lst xs) := by
  refine ⟨?_, ?_, ?_, ?_, ?_⟩
  · rw [D.plain, plains_all, List.all_eq_true]
    exact fun x hx => (h x hx).plain
  · rw [D.py, PyData.showable, pys_map, showableAll_all, List.all_map,
      List.all_eq_true]
    exact fun x hx => (h x hx).able
  · have := depthAll_le (k := k) (D.pys xs) (fun x hx => by
      rw [pys_map] at hx
      obtain ⟨y, hy, rfl⟩ := List.mem_map.mp hx
      exact (h y hy).deep)
    simp only [D.py, PyData.depth]
    omega
  · rw [D.py, PyData.leavesShort, pys_map, leavesShortAll_all, List.all_map,
      List.all_eq_true]
    exact fun x hx => (h x hx).short
  · have := weightAll_le (k := w) (D.pys xs) (fun x hx => by
      rw [pys_map] at hx
      obtain ⟨y, hy, rfl⟩ := List.mem_map.mp hx
      exact (h y hy).wt)
    rw [pys_map, List.length_map] at this
    simp only [D.py, PyData.weight, pys_map]
    omega
/-- small whole numbers -/
theorem itm_int {i : Int} (h1 : -10000 ≤ i) (h2 : i ≤ 10000) :
    Itm 0 15 (.int i) := by
  have hl : i.natAbs.log2 < 14 :=
    PySem.Flt.log2_lt_of (by decide) (show i.natAbs < 2 ^ 14 by omega)
  refine ⟨rfl, ?_, by simp [D.py, PyData.depth], ?_, ?_⟩
  · rw [D.py, PyData.showable]
    exact decide_eq_true (by omega)
  · rw [D.py, PyData.leavesShort]
    refine decide_eq_true ?_
    have e := int_text_length_le (a := i) (k := 14) (by decide) hl
    show (Str.ofString (toString i)).length ≤ 60
    rw [PySem.ofString_length]
    omega
  · rw [D.py, PyData.weight]
    split
    · omega
    · omega
end Wt

namespace Wt
open PySem PySem.Spec PyProof.Rows L2
theorem tuple_mul_same (l : Addr) (items : Array Value) (n : Nat)
    (dd : Option Addr) (sl : Array (Option Value)) (x : Int) (u : Tok)
    (c0 : (decide (x < -(2 ^ 63)) || decide (x ≥ 2 ^ 63)) = false)
    (c1 : (items.isEmpty || x == 1) = true) :
    Meets (Builtin.«tuple.__mul__» ⟨[.ref l, .int x u], []⟩)
      (fun _ R s => s.heap.get? l = some
        { cls := .type "tuple", dict := dd, data := .seq items n, slots := sl } ∧
        R (.ok (.ret (Value.ref l))) s) :=
  .of_wp fun prog w A R s h => by
    obtain ⟨hp, g, d, tk, os⟩ := s
    obtain ⟨hl, h⟩ := h
    have f1 := AutoSeq1.idx_int
    wp_walk using wpAny_loadPart' hl
    repeat (first
      | (refine wpAny_ite_false (decide_eq_false (by rw [c0]; exact Bool.false_ne_true)) ?_; wp_walk using wpAny_loadPart' hl)
      | (refine wpAny_ite_true (decide_eq_true (by rw [c1])) ?_; wp_walk using wpAny_loadPart' hl))
    exact ⟨_, rfl, h⟩
theorem tuple_mul_none (l : Addr) (items : Array Value) (n : Nat)
    (dd : Option Addr) (sl : Array (Option Value)) (x : Int) (u : Tok)
    (c0 : (decide (x < -(2 ^ 63)) || decide (x ≥ 2 ^ 63)) = false)
    (c1 : (items.isEmpty || x == 1) = false)
    (c2 : (decide (x ≤ 0) || items.isEmpty) = true) :
    Meets (Builtin.«tuple.__mul__» ⟨[.ref l, .int x u], []⟩)
      (fun _ R s => s.heap.get? l = some
        { cls := .type "tuple", dict := dd, data := .seq items n, slots := sl } ∧
        R (.ok (.ret (Value.ref s.heap.objs.size))) { s with heap := s.heap.push { cls := Value.type "tuple", data := Data.seq #[] }, toks := s.toks }) :=
  .of_wp fun prog w A R s h => by
    obtain ⟨hp, g, d, tk, os⟩ := s
    obtain ⟨hl, h⟩ := h
    have f1 := AutoSeq1.idx_int
    wp_walk using wpAny_loadPart' hl
    repeat (first
      | (refine wpAny_ite_false (decide_eq_false (by rw [c0]; exact Bool.false_ne_true)) ?_; wp_walk using wpAny_loadPart' hl)
      | (refine wpAny_ite_false (decide_eq_false (by rw [c1]; exact Bool.false_ne_true)) ?_; wp_walk using wpAny_loadPart' hl)
      | (refine wpAny_ite_true (decide_eq_true (by rw [c2])) ?_; wp_walk using wpAny_loadPart' hl))
    exact ⟨_, rfl, h⟩
def rRepA (K : PySem.W.Frag) : R2 := fun x y H Q => ∃ l k xs,
  x = .ref l ∧ y = .int k ∧ SqT K H l xs ∧ 0 ≤ k ∧ k ≤ 1000 ∧
  xs.length ≤ 1000 ∧ (xs = [] ∨ k = 1 → Q (.ref l) H) ∧
  (xs ≠ [] → k ≠ 1 → NewT H (List.replicate k.toNat xs).flatten Q)
theorem op_repA {X : Cx} : OpR X (binaryOp .Mult) (rRepA X.K) := by
  intro pins s σ H x y v u Q I rx ry h
  obtain ⟨l, k, xs, rfl, rfl, hT, h1, h2, hz, q1, q2⟩ := h
  cases rx
  obtain ⟨t, rfl⟩ := ry
  obtain ⟨its, r, ⟨⟨cls, dd, data, sl⟩, ho, hc, n, hd⟩, hs⟩ := I.tuple hT
  simp only at hc hd
  subst hc hd
  have hle : its.length = xs.length := r.length.symm
  have c0 : (decide (k < -(2 ^ 63)) || decide (k ≥ 2 ^ 63)) = false := by
    rw [decide_eq_false (by omega), decide_eq_false (by omega)]; rfl
  by_cases hsame : xs = [] ∨ k = 1
  · have c1 : (its.toArray.isEmpty || k == 1) = true := by
      rcases hsame with e | e
      · subst e
        cases its with
        | nil => rfl
        | cons a b => simp at hle
      · subst e
        simp
    exact wpAny_binaryOp_repeat_ref (T := "tuple") (U := "int") (by decide)
      ⟨_, ho, rfl⟩ (fun s' => typeIs_int s' k t) noFill_tuple_mul
      F.fills_int_mul F.slot_int_rmul repeat_tuple F.slot_int_index.lookup
      (call_meets F.slot_int_rmul (typeIs_int s k t) F.entry_int_rmul
        (F.args_int_rmul_2 _ _) (int_rmul_tuple k t l its.toArray n dd sl)
        ⟨ho, rfl, ⟨_, ho, rfl⟩, call_meets F.slot_tuple_mul ⟨_, ho, rfl⟩
          F.entry_tuple_mul (F.args_tuple_mul_2 _ _)
          (tuple_mul_same l its.toArray n dd sl k t c0 c1)
          ⟨ho, .ref l, H, I, rfl, q1 hsame⟩⟩)
  · have hne : xs ≠ [] := fun e => hsame (.inl e)
    have hk1 : k ≠ 1 := fun e => hsame (.inr e)
    have hi : its.toArray.isEmpty = false := by
      cases its with
      | nil => exact absurd (List.eq_nil_of_length_eq_zero hle.symm) hne
      | cons a b => rfl
    have c1 : (its.toArray.isEmpty || k == 1) = false := by
      rw [hi, Bool.false_or]
      exact beq_eq_false_iff_ne.mpr hk1
    have q := q2 hne hk1
    by_cases hk0 : k = 0
    · subst hk0
      refine wpAny_binaryOp_repeat_ref (T := "tuple") (U := "int") (by decide)
        ⟨_, ho, rfl⟩ (fun s' => typeIs_int s' 0 t) noFill_tuple_mul
        F.fills_int_mul F.slot_int_rmul repeat_tuple F.slot_int_index.lookup
        (call_meets F.slot_int_rmul (typeIs_int s 0 t) F.entry_int_rmul
          (F.args_int_rmul_2 _ _) (int_rmul_tuple 0 t l its.toArray n dd sl)
          ⟨ho, rfl, ⟨_, ho, rfl⟩, call_meets F.slot_tuple_mul ⟨_, ho, rfl⟩
            F.entry_tuple_mul (F.args_tuple_mul_2 _ _)
            (tuple_mul_none l its.toArray n dd sl 0 t c0 c1 rfl) ⟨ho, ?_⟩⟩)
      exact ep_newT (xs := []) (its := []) (n := 0) (tk := s.toks) I
        (Nat.zero_le _) .nil q
    · have hsz0 : its.toArray.size = xs.length := by
        rw [List.size_toArray, hle]
      have hm : ((its.toArray.size : Nat) : Int) * k ≤ 1000000 := by
        rw [hsz0]
        have a1 : ((xs.length : Nat) : Int) * k ≤ 1000 * k :=
          Int.mul_le_mul_of_nonneg_right (by omega) (by omega)
        omega
      have flen : (List.replicate k.toNat its).flatten.length ≤ sizeLine := by
        rw [PyProof.Rows.lm_len_rep_flat, hle, sizeLine_eq]
        have a1 : k.toNat * xs.length ≤ 1000 * 1000 :=
          Nat.mul_le_mul (by omega) hz
        omega
      have c2 : (decide (k ≤ 0) || its.toArray.isEmpty) = false := by
        rw [hi, Bool.or_false]
        exact decide_eq_false (by omega)
      have c4 : Builtin.Tuple.tupleTooMany
          (((its.toArray.size : Nat) : Int) * k) = false := by
        unfold Builtin.Tuple.tupleTooMany
        rw [sizeLine_eq]
        exact decide_eq_false (by omega)
      refine wpAny_binaryOp_repeat_ref (T := "tuple") (U := "int") (by decide)
        ⟨_, ho, rfl⟩ (fun s' => typeIs_int s' k t) noFill_tuple_mul
        F.fills_int_mul F.slot_int_rmul repeat_tuple F.slot_int_index.lookup
        (call_meets F.slot_int_rmul (typeIs_int s k t) F.entry_int_rmul
          (F.args_int_rmul_2 _ _) (int_rmul_tuple k t l its.toArray n dd sl)
          ⟨ho, rfl, ⟨_, ho, rfl⟩, call_meets F.slot_tuple_mul ⟨_, ho, rfl⟩
            F.entry_tuple_mul (F.args_tuple_mul_2 _ _)
            (tuple_mulW l its.toArray n dd sl k t c0 c1 c2 (by omega) c4
              (by rw [size_rep, List.size_toArray]; exact flen)) ⟨ho, ?_⟩⟩)
      rw [size_rep]
      have rr : Vals (List.replicate k.toNat xs).flatten
          (List.replicate k.toNat its).flatten := by
        have : ∀ n : Nat, Vals (List.replicate n xs).flatten
            (List.replicate n its).flatten := by
          intro n
          induction n with
          | zero => exact .nil
          | succ n ih =>
            rw [List.replicate_succ, List.replicate_succ, List.flatten_cons,
              List.flatten_cons]
            exact r.append ih
        exact this _
      exact ep_newT (n := 0) (tk := s.toks) I (by rw [rr.length]; exact flen) rr q
section
variable {K : PySem.W.Frag} {l : Option Addr} {ρ : Ro} {m : Nat}
variable {Φ : Nat → D → Prop} {Θ : Nat → Bool → Prop}
variable {Nx : Nat → Ro → Prop} {Rt : Nat → D → Prop} {ts tb : TS}
variable {ta te tl : TE} {t u : TT} {tA tK : TA}
variable {Z : Addr → Prop} {B H : Hp} {σ : L2.St}
theorem IsAll.rep {vs : List V} {ds : List D} (h : IsAll K B vs ds) :
    ∀ n : Nat, IsAll K B (List.replicate n vs).flatten
      (List.replicate n ds).flatten
  | 0 => .nil
  | n + 1 => by
    rw [List.replicate_succ, List.replicate_succ, List.flatten_cons,
      List.flatten_cons]
    exact h.append (IsAll.rep h n)
theorem v_repT {ds : List D} {k : Int} (h0 : 0 ≤ k) (h1 : k ≤ 1000)
    (hl : ds.length ≤ 1000)
    (q : Φ m (.tup (List.replicate k.toNat ds).flatten)) :
    VvC K l ρ (fun vs H Q => ∃ x y, vs = [x, y] ∧ rRepA K x y H Q)
      [.tup ds, .int k] m Φ := by
  intro Z B H σ vs Q ok is kk
  obtain ⟨v, w, rfl, h, h2⟩ := isAll2 is
  cases h2
  cases h with
  | @tup a us _ h r hcl =>
    refine ⟨_, _, rfl, a, k, us, rfl, rfl, sameT ok.sub h, h0, h1,
      by rw [r.length]; exact hl, fun e => ?_, fun n1 n2 p ob hp hd _ => ?_⟩
    · have e2 : (List.replicate k.toNat ds).flatten = ds := by
        rcases e with e | e
        · subst e
          cases r
          simp
        · subst e
          simp
      rw [e2] at q
      exact kk _ _ m B H ok Fr.refl (.tup h r hcl) q
    · obtain ⟨o2, f2⟩ := ok.new
        (o := .frz ob (.tup (List.replicate k.toNat us).flatten)) hp
      exact kk _ _ m _ _ o2 f2 (.newT upd_same hd
        ((r.mono f2.sub).rep _)) q
theorem v_repL {ds : List D} {k : Int} (h0 : 0 ≤ k) (h1 : k ≤ 1000)
    (hl : ds.length ≤ 1000)
    (q : Φ m (.lst (List.replicate k.toNat ds).flatten)) :
    VvC K l ρ (fun vs H Q => ∃ x y, vs = [x, y] ∧ rRep x y H Q)
      [.lst ds, .int k] m Φ := by
  intro Z B H σ vs Q ok is kk
  obtain ⟨v, w, rfl, h, h2⟩ := isAll2 is
  cases h2
  cases h with
  | @lst a us _ h r =>
    refine ⟨_, _, rfl, a, k, us, rfl, rfl, ok.sub _ _ h, by omega, by omega, ?_,
      fun p hp => ?_⟩
    · rw [r.length]
      have : ds.length * k.toNat ≤ 1000 * 1000 := Nat.mul_le_mul hl (by omega)
      rw [sizeLine_eq]
      omega
    · obtain ⟨o2, f2⟩ := ok.new (o := .lst (List.replicate k.toNat us).flatten) hp
      exact kk _ _ m _ _ o2 f2 (.lst upd_same ((r.mono f2.sub).rep _)) q
theorem dec_int2 (i j : Int) : decide (V.int i = V.int j) = decide (i = j) := by
  by_cases h : i = j
  · subst h; simp
  · rw [decide_eq_false h, decide_eq_false (fun z => h (V.int.inj z))]
theorem v_eqI {i j : Int} (q : Φ m (.bl (decide (i = j)))) :
    VvC K l ρ (fun vs H Q => ∃ x y, vs = [x, y] ∧ rEq x y H Q)
      [.int i, .int j] m Φ := by
  intro Z B H σ vs Q ok is k
  obtain ⟨v, w, rfl, h, h2⟩ := isAll2 is
  cases h
  cases h2
  refine ⟨_, _, rfl, rfl, k _ _ m B H ok Fr.refl (.bl _) ?_⟩
  rw [dec_int2]
  exact q
theorem v_neI {i j : Int} (q : Φ m (.bl (!decide (i = j)))) :
    VvC K l ρ (fun vs H Q => ∃ x y, vs = [x, y] ∧ rNe x y H Q)
      [.int i, .int j] m Φ := by
  intro Z B H σ vs Q ok is k
  obtain ⟨v, w, rfl, h, h2⟩ := isAll2 is
  cases h
  cases h2
  refine ⟨_, _, rfl, rfl, k _ _ m B H ok Fr.refl (.bl _) ?_⟩
  rw [dec_int2]
  exact q
mutual
def D.noDic : D → Bool
  | .lst xs => D.noDics xs
  | .tup xs => D.noDics xs
  | .dic _ => false
  | .ins _ _ _ => false
  | .scr _ => false
  | .dct _ _ => false
  | _ => true
def D.noDics : List D → Bool
  | [] => true
  | x :: xs => D.noDic x && D.noDics xs
end
mutual
theorem Is.dp (sb : Same B H) : ∀ {v : V} {d : D}, Is K B v d →
    d.noDic = true → Dp K H v d.py
  | _, _, .non, _ => .non
  | _, _, .bl b, _ => .bl b
  | _, _, .int i, _ => .int i
  | _, _, .str x, _ => .str x
  | _, _, .lst h r, e => by
    rw [D.noDic] at e
    exact .lst (SqL.of (sb _ _ h)) (IsAll.dp sb r e)
  | _, _, .tup h r _, e => by
    rw [D.noDic] at e
    exact .tup (sameT sb h) (IsAll.dp sb r e)
  | _, _, .dic _, e => by simp [D.noDic] at e
  | _, _, .ins _ _, e => by simp [D.noDic] at e
  | _, _, .scr _, e => by simp [D.noDic] at e
  | _, _, .dct _ _ _, e => by simp [D.noDic] at e
theorem IsAll.dp (sb : Same B H) : ∀ {vs : List V} {ds : List D},
    IsAll K B vs ds → D.noDics ds = true → DpAll K H vs (D.pys ds)
  | _, _, .nil, _ => .nil
  | _, _, .cons h r, e => by
    rw [D.noDics, Bool.and_eq_true] at e
    exact .cons (Is.dp sb h e.1) (IsAll.dp sb r e.2)
end
structure Eqs (d : D) : Prop where
  plain : d.noDic = true
  shaped : SeqAt.shaped d.py = true
theorem v_eqD {a b : D} (ha : Eqs a) (hb : Eqs b)
    (q : Φ m (.bl (PyData.eqv a.py b.py))) :
    VvC K l ρ (fun vs H Q => ∃ x y, vs = [x, y] ∧ rEqD K x y H Q)
      [a, b] m Φ := by
  intro Z B H σ vs Q ok is k
  obtain ⟨v, w, rfl, h, h2⟩ := isAll2 is
  exact ⟨_, _, rfl, _, _, h.dp ok.sub ha.plain, h2.dp ok.sub hb.plain,
    ha.shaped, hb.shaped, k _ _ m B H ok Fr.refl (.bl _) q⟩
theorem v_neD {a b : D} (ha : Eqs a) (hb : Eqs b)
    (q : Φ m (.bl (!PyData.eqv a.py b.py))) :
    VvC K l ρ (fun vs H Q => ∃ x y, vs = [x, y] ∧ rNeD K x y H Q)
      [a, b] m Φ := by
  intro Z B H σ vs Q ok is k
  obtain ⟨v, w, rfl, h, h2⟩ := isAll2 is
  exact ⟨_, _, rfl, _, _, h.dp ok.sub ha.plain, h2.dp ok.sub hb.plain,
    ha.shaped, hb.shaped, k _ _ m B H ok Fr.refl (.bl _) q⟩
end
end Wt

namespace Wt
open PySem PySem.Spec PyProof.Rows L2 RZ
section
variable {K : PySem.W.Frag} {l : Option Addr} {ρ : Ro} {m : Nat}
variable {Φ : Nat → D → Prop} {Θ : Nat → Bool → Prop}
variable {Nx : Nat → Ro → Prop} {Rt : Nat → D → Prop} {ts tb : TS}
variable {ta te tl : TE} {t u : TT} {tA tK : TA}
variable {Z Z' : Addr → Prop} {B H : Hp} {σ : L2.St}
theorem Ok.less (h : Ok K l Z' m B H σ ρ) (hz : ∀ z, Z z → Z' z) :
    Ok K l Z m B H σ ρ := by
  refine ⟨⟨h.sub, h.hand, fun z q => h.zs z (hz z q), h.tab⟩, h.len, ?_, h.dis⟩
  intro i s e
  obtain ⟨v, e1, q⟩ := h.sl i s e
  refine ⟨v, e1, ?_⟩
  cases s with
  | dat d => exact q
  | hand => exact q
  | own ds =>
    obtain ⟨a, xs, rfl, q1, q2, q3, q4, q5⟩ := q
    exact ⟨a, xs, rfl, q1, q2, fun z => q3 (hz a z), q4, q5⟩
  | obj R =>
    obtain ⟨a, xs, rfl, q1, q2, q3, q4, q5⟩ := q
    exact ⟨a, xs, rfl, q1, q2, fun z => q3 (hz a z), q4, q5⟩
/-- a new object of which nothing is told -/
theorem Ok.junk {p : Addr} {o : HO} (h : Ok K l Z m B H σ ρ)
    (hp : H p = none) : Ok K l Z m B (upd H p o) σ ρ ∧
      Fr Z B H B (upd H p o) :=
  ⟨(h.aside hp).less fun z q => .inl q,
    ⟨Same.refl B, fun z q => upd_ne fun e => (h.zs z q).1 (e ▸ hp)⟩⟩
theorem set_none {j : Nat} (e : ρ[j]? = some none) : ρ.set j none = ρ := by
  obtain ⟨hj, q⟩ := List.getElem?_eq_some_iff.mp e
  rw [← q, List.set_getElem_self]
theorem Ok.back {j : Nat} {v : Option V}
    (h : Ok K l Z m B H (σ.set j v) ρ) (e : ρ[j]? = some none) :
    Ok K l Z m B H σ ρ := by
  rw [← set_none e] at h
  exact h.unset e
theorem Ok.any {j : Nat} {v : Option V} (h : Ok K l Z m B H σ ρ)
    (e : ρ[j]? = some none) : Ok K l Z m B H (σ.set j v) ρ := by
  have ne : ∀ (i : Nat) x, ρ[i]? = some (some x) → j ≠ i := fun i x q z => by
    subst z; rw [e] at q; cases q
  refine ⟨h.toBs, by rw [List.length_set]; exact h.len, fun i s q => ?_,
    fun i k ds es a n p1 p2 q1 q2 => ?_⟩
  · rw [List.getElem?_set_ne (ne i s q)]
    exact h.sl i s q
  · rw [List.getElem?_set_ne (ne i _ q1), List.getElem?_set_ne (ne k _ q2)]
    exact h.dis i k ds es a n p1 p2 q1 q2
/-- the target of a pair -/
abbrev g2 (K : PySem.W.Frag) (i j : Nat) : TG :=
  gTup K 2 (gCons (gName i) (gCons (gName j) gNil))
theorem walk_zipT {a b : Addr} {xs ys : List V} {n : Nat}
    (hn : n = min xs.length ys.length) : Walk (ItzT K a b) n
      (fun H => SqT K H a xs ∧ SqT K H b ys)
      (YPair (fun i => xs[i]?) (fun i => ys[i]?)) := by
  refine ⟨fun i H hi h => ?_, fun H h => ⟨xs, ys, h.1, h.2, by omega⟩,
    fun i H x H' hi h q => ?_⟩
  · exact ⟨xs, ys, xs[i]'(by omega), ys[i]'(by omega), h.1, h.2,
      List.getElem?_eq_getElem _, List.getElem?_eq_getElem _⟩
  · obtain ⟨T, x1, y1, rfl, hT, rfl, e1, e2⟩ := q
    exact ⟨T, x1, y1, rfl, hT, rfl, e1 xs h.1, e2 ys h.2⟩
theorem lcw_turn2 {A T : Addr} {I : Nat → Nat → List D → Prop} {c i j : Nat}
    {x y : V} {H' : Hp} {P : D → D → Prop} (hz : ¬ Z A)
    (hi : ρ[i]? = some none) (hj : ρ[j]? = some none) (hij : i ≠ j)
    (w : LcW K l Z ρ σ B H A I c H') (hT : H' T = none)
    (hx : ∀ B', Same B B' → ∃ d e, Is K B' x d ∧ Is K B' y e ∧ P d e)
    (hc : c < 100000)
    (he : ∀ d e n acc, P d e → I c n acc → acc.length = c →
      EvC K l te ((ρ.set i (some (.dat d))).set j (some (.dat e))) n
        fun n2 y => I (c + 1) n2 (acc ++ [y])) :
    g2 K i j (.ref T) (wipe σ [i, j]) (upd H' T (.tup [x, y])) fun σ2 H2 =>
      wipe σ2 [i, j] = wipe σ [i, j] ∧ tYes σ2 H2 fun b H3 =>
        if b = true then te σ2 H3 fun y H4 =>
          ∃ acc, H4 A = some (.lst acc) ∧ acc.length < sizeLine ∧
            LcW K l Z ρ σ B H A I (c + 1) (upd H4 A (.lst (acc ++ [y])))
        else LcW K l Z ρ σ B H A I (c + 1) H3 := by
  obtain ⟨n, acc, xs, B', ok, fr, hA, is, hI, hl⟩ := w
  obtain ⟨d, e, hd, he', hP⟩ := hx B' fr.sub
  refine ⟨T, [x, y], rfl, SqT.of upd_same, rfl, x, [y], rfl, y, [], rfl, rfl, ?_⟩
  have e1 : ((wipe σ [i, j]).set i (some x)).set j (some y) =
      (σ.set i (some x)).set j (some y) := by
    show ((((σ.set j none).set i none).set i (some x)).set j (some y)) = _
    rw [List.set_set, List.set_comm _ _ hij, List.set_set, List.set_comm _ _ (Ne.symm hij)]
  have e2 : wipe ((σ.set i (some x)).set j (some y)) [i, j] =
      wipe σ [i, j] := by
    show (((σ.set i (some x)).set j (some y)).set j none).set i none =
      (σ.set j none).set i none
    rw [List.set_set, List.set_comm _ _ hij, List.set_set]
  unfold tYes
  dsimp only
  rw [e1, if_pos rfl]
  refine ⟨e2, ?_⟩
  obtain ⟨okJ, frJ⟩ := ok.junk (o := .tup [x, y]) hT
  have nTA : A ≠ T := fun z => by rw [z, hT] at hA; cases hA
  refine he d e n acc hP hI hl _ B' _ _ _ ((okJ.set hd).set he')
    fun v y2 n2 B2 H2 o2 f2 i2 g2 => ?_
  have hA2 : H2 A = some (.lst xs) := by
    rw [f2.kept A (.inr rfl), upd_ne nTA]
    exact hA
  have hj2 : (ρ.set i (some (.dat d)))[j]? = some none := by
    rw [List.getElem?_set_ne hij]; exact hj
  refine ⟨xs, hA2, ?_, n2, acc ++ [y2], xs ++ [v], B2,
    ((o2.unset hj2).unset hi).write (.inr rfl), ?_, upd_same,
    (is.mono f2.sub).append (.cons i2 .nil), g2, by simp [hl]⟩
  · rw [is.length, hl]
    exact Nat.lt_of_lt_of_le hc (by decide)
  · refine ⟨fr.sub.trans f2.sub, fun z hz' => ?_⟩
    rw [upd_ne (fun (e : z = A) => hz (e ▸ hz'))]
    rw [f2.kept z (.inl hz'), frJ.kept z (.inl hz')]
    exact fr.kept z hz'
/-- [e for a, b in zip(t, u)] of two tuples -/
theorem e_lcZ {i j : Nat} (hi : ρ[i]? = some none) (hj : ρ[j]? = some none)
    (hij : i ≠ j)
    (h : AvC K l tA ρ m fun m1 as => ∃ xs ys, as = [.tup xs, .tup ys] ∧
      xs.length ≤ 50000 ∧ ∃ I : Nat → Nat → List D → Prop, I 0 m1 [] ∧
      (∀ c n acc d e, xs[c]? = some d → ys[c]? = some e → I c n acc →
        acc.length = c →
        EvC K l te ((ρ.set i (some (.dat d))).set j (some (.dat e))) n
          fun n2 y => I (c + 1) n2 (acc ++ [y])) ∧
      ∀ n acc, acc.length = min xs.length ys.length →
        I (min xs.length ys.length) n acc → Φ n (.lst acc)) :
    EvC K l (tLc (iZipA K tA) (g2 K i j) tYes te [i, j]) ρ m Φ := by
  intro Z B H σ Q ok k
  refine h Z B H σ _ ok fun vs as m1 B1 H1 o1 f1 i1 g1 => ?_
  obtain ⟨xs, ys, rfl, hl, I, h0, hs, hd⟩ := g1
  obtain ⟨v, w, rfl, z1, z2⟩ := isAll2 i1
  cases z1 with
  | @tup a us _ hu r1 =>
    cases z2 with
    | @tup b ws _ hw r2 =>
      refine ⟨a, b, us, ws, rfl, .inr ⟨sameT o1.sub hu, sameT o1.sub hw,
        fun A hA => ?_⟩⟩
      have hz : ¬ Z A := fun z => (o1.zs A z).1 hA
      refine lc_it (walk_zipT (xs := us) (ys := ws) rfl)
        (LcW K l Z ρ σ B1 H1 A I) (lcw_start o1 hA h0)
        (fun c H' _ w => ?_) (fun c x H' H'' hc w q => ?_) fun H' w => ?_
      · obtain ⟨n, acc, zs, B', ok', fr', _⟩ := w
        exact ⟨sameT ok'.sub (sameT fr'.sub hu),
          sameT ok'.sub (sameT fr'.sub hw)⟩
      · obtain ⟨T, x1, y1, rfl, hT, rfl, e1, e2⟩ := q
        refine lcw_turn2 (P := fun d e => xs[c]? = some d ∧ ys[c]? = some e)
          hz hi hj hij w hT (fun B' sb => ?_)
          (by rw [r1.length] at hc; omega)
          fun d e n acc p => hs c n acc d e p.1 p.2
        obtain ⟨d, q1, p1⟩ := (r1.mono sb).get e1
        obtain ⟨e, q2, p2⟩ := (r2.mono sb).get e2
        exact ⟨d, e, p1, p2, q1, q2⟩
      · rw [r1.length, r2.length] at w
        exact lcw_end hz w hd fun v d m' B2 H2 o2 f2 i2 g2 =>
          k v d m' B2 H2 o2 (f1.trans f2) i2 g2
end
end Wt

namespace Wt
open PySem PySem.Spec PyProof.Rows L2 HT
section
variable {prog : Program} {w : World} {A : Around}
variable {E : Value → Shared → Prop} {s : Shared}
theorem pick_rev (xs : Array Value) :
    ((List.range xs.size).filterMap fun (k : Nat) =>
      xs[(((xs.size : Int) - 1) + (k : Int) * (-1)).toNat]?).toArray =
    xs.toList.reverse.toArray := by
  congr 1
  have e : (fun (k : Nat) =>
      xs[(((xs.size : Int) - 1) + (k : Int) * (-1)).toNat]?) =
      (fun i => xs[i]?) ∘ fun k => xs.size - 1 - k := by
    funext k
    have h1 : (((xs.size : Int) - 1) + (k : Int) * (-1)).toNat =
        xs.size - 1 - k := by omega
    rw [h1]
    rfl
  rw [e, ← List.filterMap_map, PySem.W.krv_range, List.filterMap_reverse,
    PySem.W.krv_all]
theorem sliceApplied_rev {sl : Addr} {vl vu vs : Value} {n : Nat}
    {Q : Int × Int × Nat → Shared → Prop}
    (hs : s.heap.IsSliceOf sl vl vu vs) (pl : IsPart vl none)
    (pu : IsPart vu none) (ps : IsPart vs (some (-1)))
    (h : Q ((n : Int) - 1, -1, n) s) :
    wpAny (model prog w) A
      (Builtin.Slice.sliceApplied (.ref sl) (pure (n : Int))) Q E s := by
  obtain ⟨os, hos, hcs, hds⟩ := id hs
  unfold Builtin.Slice.sliceApplied Builtin.Slice.sliceFields
  refine wpAny_bind (wpAny_bind (wpAny_field hos hds (x := vl) rfl
    (wpAny_bind (wpAny_field hos hds (x := vu) rfl (wpAny_bind
      (wpAny_field hos hds (x := vs) rfl (wpAny_pure ?_)))))))
  refine wpAny_bind (slicePart_ ps ?_)
  show wpAny _ _ (if ((-1 : Int) == 0) = true then _ else _) _ _ s
  rw [if_neg (by decide)]
  refine wpAny_bind (slicePart_ pl (wpAny_bind (slicePart_ pu
    (wpAny_bind (wpAny_pure ?_)))))
  have ea : Builtin.Slice.sliceAdjust none none (-1) (n : Int) =
      ((n : Int) - 1, -1) := by
    unfold Builtin.Slice.sliceAdjust
    simp
  have ep : Builtin.Slice.slicePlaces ((n : Int) - 1) (-1) (-1) = n := by
    unfold Builtin.Slice.slicePlaces
    simp
    omega
  show wpAny _ _ (match Builtin.Slice.sliceAdjust none none (-1) (n : Int) with | (lo, hi) => pure (lo, (-1 : Int), Builtin.Slice.slicePlaces lo hi (-1))) _ _ s
  rw [ea]
  show wpAny _ _ (pure ((n : Int) - 1, (-1 : Int), Builtin.Slice.slicePlaces ((n : Int) - 1) (-1) (-1))) _ _ s
  rw [ep]
  exact wpAny_pure h
theorem getItem_tuple_rev {t sl : Addr} {items : Array Value}
    {vl vu vs : Value} {Q : Value → Shared → Prop}
    (ht : IsTup s.heap t items) (hs : s.heap.IsSliceOf sl vl vu vs)
    (pl : IsPart vl none) (pu : IsPart vu none) (ps : IsPart vs (some (-1)))
    (h : Q (.ref s.heap.objs.size) { s with heap := s.heap.push { cls := .type "tuple", data := .seq items.toList.reverse.toArray } })
    (hsz : items.size ≤ sizeLine) :
    wpAny (model prog w) A (getItem (.ref t) (.ref sl)) Q E s := by
  have hk : sizeOk (.seq items.toList.reverse.toArray) := by
    show items.toList.reverse.toArray.size ≤ sizeLine
    simpa using hsz
  obtain ⟨os, hos, hcs, hds⟩ := id hs
  have hTs : s.TypeIs (.ref sl) "slice" := ⟨os, hos, hcs⟩
  unfold getItem
  try with_reducible refine wpAny_holding ?_
  first | refine wpAny_bind (wpAny_pure ?_) | skip
  refine wpAny_bind (wpAny_sequenceKey ht.typeIs (by decide) ?_)
  refine wpAny_bind (wpAny_callSpecial?_slot
    (name := Str.ofString "__getitem__") ht.typeIs
    PyProof.Rows.slot_tuple_getitem (wpAny_call_entry
      PyProof.Rows.slot_tuple_getitem ht.typeIs entry_tuple_getitem ?_
      (args_tuple_getitem _ _)))
  show wpAny _ _ (Builtin.Tuple.tupleItemsOf (.ref t) >>= _) _ _ s
  refine wpAny_bind (tupleItemsOf_ ht ?_)
  refine wpAny_bind (wpAny_typeOf hTs ?_)
  rw [if_pos (by decide)]
  refine wpAny_bind (sliceApplied_rev hs pl pu ps ?_)
  have hno : ¬ ((((items.size : Int) - 1) == 0 && (-1 : Int) == 1 && items.size == items.size) = true) := by
    intro q
    rw [Bool.and_eq_true, Bool.and_eq_true] at q
    exact absurd q.1.2 (by decide)
  show wpAny _ _ (if (((items.size : Int) - 1) == 0 && (-1 : Int) == 1 && items.size == items.size) = true then _ else _) _ _ s
  rw [if_neg hno, pick_rev]
  first
    | exact wpAny_bind (m := Builtin.Tuple.tupleExact _) (wpAny_newObj_type (wpAny_pure ⟨_, rfl, wpAny_pure h⟩) hk)
    | exact wpAny_bind (m := Builtin.Tuple.tupleExact _) (wpAny_newObj_type (wpAny_bind (wpAny_pure (wpAny_pure ⟨_, rfl, wpAny_pure h⟩))) hk)
    | exact wpAny_bind (wpAny_bind (m := Builtin.Tuple.tupleExact _) (wpAny_newObj_type (wpAny_pure (wpAny_pure ⟨_, rfl, wpAny_pure h⟩)) hk))
    | exact wpAny_bind (wpAny_bind (m := Builtin.Tuple.tupleExact _) (wpAny_newObj_type (wpAny_pure ⟨_, rfl, wpAny_pure h⟩) hk))
end
def tRevT (K : PySem.W.Frag) (te : TE) : TE := fun σ H Q =>
  te σ H fun x H1 => ∃ a xs, x = .ref a ∧ SqT K H1 a xs ∧
    NewT H1 xs.reverse Q
section
variable {X : Cx}
theorem pe_revT {e : Expr} {te : TE} {k : Nat} {p1 p2 p3 pos : Pos}
    (he : PE X e te) : PE X (.Subscript e (.Slice none none (some
      (.UnaryOp .USub (.Constant (.int 1) k p1) p2)) p3) pos)
      (tRevT X.K te) := by
  refine ⟨fun pins s σ H Q I h => ?_⟩
  refine Subscript_ (thn (he.run pins s σ H _ I h) fun v s1 ⟨x, H1, I1, r1, q1⟩ => ?_)
  obtain ⟨a, xs, ex, hx, q⟩ := q1
  subst ex
  cases r1
  have hst : PO X (some (.UnaryOp .USub (.Constant (.int 1) k p1) p2))
      (tPart (tUn (rU fun i => .int (-i)) (tC (.int 1)))) :=
    po_some (pe_un un_neg pe_int)
  refine wpAny_Slice (thn (po_none.run pins s1 σ H1
    (fun o H2 => o = none ∧ H2 = H1) I1 ⟨rfl, rfl⟩)
    fun vl s2 ⟨l, H2, I2, pl, el, e2⟩ => ?_)
  subst el e2
  refine thn (po_none.run pins s2 σ H2 (fun o H3 => o = none ∧ H3 = H2)
    I2 ⟨rfl, rfl⟩) fun vu s3 ⟨u, H3, I3, pu, eu, e3⟩ => ?_
  subst eu e3
  refine thn (hst.run pins s3 σ H3 (fun o H4 => o = some (-1) ∧ H4 = H3)
    I3 ⟨1, rfl, -1, rfl, rfl, rfl⟩) fun vs s4 ⟨o, H4, I4, ps, eo, e4⟩ => ?_
  subst eo e4
  have I5 : Inv X pins σ H4 { s4 with heap := s4.heap.push { cls := .type "slice", data := .fields #[vl, vu, vs] } } :=
    I4.kept (t' := s4.toks) fun b ob q => Heap.get?_push_of_some _ q
  obtain ⟨its, r, ht, hz⟩ := I5.tuple hx
  have hlen := r.length
  refine tail_any (ops := [.ref a, .ref s4.heap.objs.size]) ht.typeIs
    (PyProof.Rows.slot_tuple_getitem.lookup) ?_ (by with_unfolding_all rfl)
  refine getItem_tuple_rev ht (Heap.IsSliceOf.new _ vl vu vs) pl pu ps ?_
    (by rw [List.size_toArray]; omega)
  exact ep_newT (tk := s4.toks) I5 (by rw [List.length_reverse]; exact hz)
    r.reverse q
theorem pe_revTK {K : PySem.W.Frag} {e : Expr} {te : TE} {k : Nat}
    {p1 p2 p3 pos : Pos} (hK : X.K = K) (he : PE X e te) :
    PE X (.Subscript e (.Slice none none (some
      (.UnaryOp .USub (.Constant (.int 1) k p1) p2)) p3) pos)
      (tRevT K te) := by
  subst hK
  exact pe_revT he
end
section
variable {K : PySem.W.Frag} {l : Option Addr} {ρ : Ro} {m : Nat}
variable {Φ : Nat → D → Prop} {te : TE} {B : Hp}
theorem IsAll.reverse : ∀ {vs : List V} {ds : List D}, IsAll K B vs ds →
    IsAll K B vs.reverse ds.reverse
  | _, _, .nil => .nil
  | _, _, .cons h r => by
    rw [List.reverse_cons, List.reverse_cons]
    exact (IsAll.reverse r).append (.cons h .nil)
theorem e_revT (h : EvC K l te ρ m fun m1 x => ∃ ds, x = .tup ds ∧
      Φ m1 (.tup ds.reverse)) : EvC K l (tRevT K te) ρ m Φ := by
  intro Z B H σ Q ok k
  refine h Z B H σ _ ok fun v x m1 B1 H1 o1 f1 i1 g1 => ?_
  obtain ⟨ds, rfl, q⟩ := g1
  cases i1 with
  | @tup a us _ hu r =>
    refine ⟨a, us, rfl, sameT o1.sub hu, fun p ob hp hd _ => ?_⟩
    obtain ⟨o2, f2⟩ := o1.new (o := .frz ob (.tup us.reverse)) hp
    exact k _ _ m1 _ _ o2 (f1.trans f2) (.newT upd_same hd
      (r.mono f2.sub).reverse) q
end
end Wt

namespace Wt
open PySem PySem.Spec PyProof.Rows L2
abbrev y3 (xs ys zs : Array Value) (i : Nat) (h0 : Heap) (v : Value)
    (h : Heap) : Prop := ∃ T x y u, v = .ref T ∧ h0.objs.size ≤ T ∧
  xs[i]? = some x ∧ ys[i]? = some y ∧ zs[i]? = some u ∧
  h.IsTuple T #[x, y, u]
section
variable {X : Cx}
end
section
variable {K : PySem.W.Frag} {l : Option Addr} {ρ : Ro} {m : Nat}
variable {Φ : Nat → D → Prop} {Θ : Nat → Bool → Prop}
variable {Nx : Nat → Ro → Prop} {Rt : Nat → D → Prop} {ts tb : TS}
variable {ta te tl : TE} {t u : TT} {tA tK : TA}
variable {Z Z' : Addr → Prop} {B H : Hp} {σ : L2.St}
theorem s_while {I : Nat → Nat → Ro → Prop} {q0 : Nat} (h0 : I q0 m ρ)
    (h : ∀ q n ρ', I q n ρ' → TvC K l t ρ' n fun n1 b =>
      if b = true then SvC K l tb ρ' n1
        (fun n2 ρ2 => ∃ q', q' < q ∧ I q' n2 ρ2) Rt
      else Nx n1 ρ') :
    SvC K l (tWhile t tb) ρ m Nx Rt := by
  intro Z B H σ W ok k j
  refine ⟨fun q σ' H' => ∃ n ρ' B', Ok K l Z n B' H' σ' ρ' ∧
    Fr Z B H B' H' ∧ I q n ρ', ⟨q0, m, ρ, B, ok, Fr.refl, h0⟩, ?_⟩
  rintro q σ' H' ⟨n, ρ', B', ok', fr', hI⟩
  refine h q n ρ' hI Z B' H' σ' _ ok' fun b n1 B1 H1 o1 f1 g1 => ?_
  cases b with
  | true =>
    refine ⟨fun σ2 H2 => ∃ q', q' < q ∧ ∃ n ρ' B', Ok K l Z n B' H2 σ2 ρ' ∧
      Fr Z B H B' H2 ∧ I q' n ρ', fun _ _ z => z, ?_⟩
    refine g1 Z B1 H1 σ' _ o1 (fun σ2 ρ2 n2 B2 H2 o2 f2 g2 => ?_)
      fun v d n2 B2 H2 o2 f2 i2 g2 => ?_
    · obtain ⟨q', hq, g⟩ := g2
      exact ⟨q', hq, n2, ρ2, B2, o2, (fr'.trans f1).trans f2, g⟩
    · exact j v d n2 B2 H2 o2 ((fr'.trans f1).trans f2) i2 g2
  | false => exact k σ' ρ' n1 B1 H1 o1 (fr'.trans f1) g1
abbrev g3 (K : PySem.W.Frag) (i j k : Nat) : TG :=
  gTup K 3 (gCons (gName i) (gCons (gName j) (gCons (gName k) gNil)))
theorem isAll3 {vs : List V} {d e f : D} (h : IsAll K B vs [d, e, f]) :
    ∃ v w x, vs = [v, w, x] ∧ Is K B v d ∧ Is K B w e ∧ Is K B x f := by
  cases h with
  | cons h r =>
    obtain ⟨w, x, rfl, h2, h3⟩ := isAll2 r
    exact ⟨_, w, x, rfl, h, h2, h3⟩
theorem lcw_turn3 {A T : Addr} {I : Nat → Nat → List D → Prop} {c i j k : Nat}
    {x y z : V} {H' : Hp} {P : D → D → D → Prop} (hz : ¬ Z A)
    (hi : ρ[i]? = some none) (hj : ρ[j]? = some none)
    (hk : ρ[k]? = some none) (hij : i ≠ j) (hik : i ≠ k) (hjk : j ≠ k)
    (w : LcW K l Z ρ σ B H A I c H') (hT : H' T = none)
    (hx : ∀ B', Same B B' → ∃ d e f, Is K B' x d ∧ Is K B' y e ∧
      Is K B' z f ∧ P d e f) (hc : c < 100000)
    (he : ∀ d e f n acc, P d e f → I c n acc → acc.length = c →
      EvC K l te (((ρ.set i (some (.dat d))).set j (some (.dat e))).set k
        (some (.dat f))) n fun n2 y => I (c + 1) n2 (acc ++ [y])) :
    g3 K i j k (.ref T) (wipe σ [i, j, k]) (upd H' T (.tup [x, y, z]))
      fun σ2 H2 => wipe σ2 [i, j, k] = wipe σ [i, j, k] ∧
        tYes σ2 H2 fun b H3 => if b = true then te σ2 H3 fun y H4 =>
          ∃ acc, H4 A = some (.lst acc) ∧ acc.length < sizeLine ∧
            LcW K l Z ρ σ B H A I (c + 1) (upd H4 A (.lst (acc ++ [y])))
        else LcW K l Z ρ σ B H A I (c + 1) H3 := by
  obtain ⟨n, acc, xs, B', ok, fr, hA, is, hI, hl⟩ := w
  obtain ⟨d, e, f, hd, he', hf, hP⟩ := hx B' fr.sub
  refine ⟨T, [x, y, z], rfl, SqT.of upd_same, rfl, x, [y, z], rfl, y, [z],
    rfl, z, [], rfl, rfl, ?_⟩
  have e1 : (((wipe σ [i, j, k]).set i (some x)).set j (some y)).set k
      (some z) = ((σ.set i (some x)).set j (some y)).set k (some z) := by
    show (((((σ.set k none).set j none).set i none).set i (some x)).set j
      (some y)).set k (some z) = _
    rw [List.set_set, List.set_comm _ _ (Ne.symm hij) (l := σ.set k none),
      List.set_set, List.set_comm _ _ (Ne.symm hik) (l := σ),
      List.set_comm _ _ (Ne.symm hjk), List.set_set]
  have e2 : wipe (((σ.set i (some x)).set j (some y)).set k (some z))
      [i, j, k] = wipe σ [i, j, k] := by
    show (((((σ.set i (some x)).set j (some y)).set k (some z)).set k
      none).set j none).set i none = ((σ.set k none).set j none).set i none
    rw [List.set_set, List.set_comm _ _ hjk, List.set_set,
      List.set_comm _ _ hik, List.set_comm _ _ hij, List.set_set]
  unfold tYes
  dsimp only
  rw [e1, if_pos rfl]
  refine ⟨e2, ?_⟩
  obtain ⟨okJ, frJ⟩ := ok.junk (o := .tup [x, y, z]) hT
  have nTA : A ≠ T := fun z => by rw [z, hT] at hA; cases hA
  refine he d e f n acc hP hI hl _ B' _ _ _ (((okJ.set hd).set he').set hf)
    fun v y2 n2 B2 H2 o2 f2 i2 g2 => ?_
  have hA2 : H2 A = some (.lst xs) := by
    rw [f2.kept A (.inr rfl), upd_ne nTA]
    exact hA
  have hj2 : (ρ.set i (some (.dat d)))[j]? = some none := by
    rw [List.getElem?_set_ne hij]; exact hj
  have hk2 : ((ρ.set i (some (.dat d))).set j (some (.dat e)))[k]? =
      some none := by
    rw [List.getElem?_set_ne hjk, List.getElem?_set_ne hik]; exact hk
  refine ⟨xs, hA2, ?_, n2, acc ++ [y2], xs ++ [v], B2,
    (((o2.unset hk2).unset hj2).unset hi).write (.inr rfl), ?_, upd_same,
    (is.mono f2.sub).append (.cons i2 .nil), g2, by simp [hl]⟩
  · rw [is.length, hl]
    exact Nat.lt_of_lt_of_le hc (by decide)
  · refine ⟨fr.sub.trans f2.sub, fun z hz' => ?_⟩
    rw [upd_ne (fun (e : z = A) => hz (e ▸ hz'))]
    rw [f2.kept z (.inl hz'), frJ.kept z (.inl hz')]
    exact fr.kept z hz'
end
end Wt

namespace Wt
open PySem PySem.Spec PyProof.Rows L2
mutual
def D.numB : D → Bool
  | .int _ => true
  | .non => true
  | .lst xs => D.nums xs
  | .tup xs => D.nums xs
  | _ => false
def D.nums : List D → Bool
  | [] => true
  | x :: xs => D.numB x && D.nums xs
end
mutual
theorem eqv_iff : ∀ (a b : D), a.numB = true → b.numB = true →
    (PyData.eqv a.py b.py = true ↔ a = b)
  | .int i, .int j, _, _ => by simp [D.py, PyData.eqv]
  | .non, .non, _, _ => by simp [D.py, PyData.eqv]
  | .lst xs, .lst ys, ha, hb => by
    rw [D.numB] at ha hb
    rw [D.py, D.py, PyData.eqv, eqvs_iff xs ys ha hb, D.lst.injEq]
  | .tup xs, .tup ys, ha, hb => by
    rw [D.numB] at ha hb
    rw [D.py, D.py, PyData.eqv, eqvs_iff xs ys ha hb, D.tup.injEq]
  | .int _, .non, _, _ | .int _, .lst _, _, _ | .int _, .tup _, _, _
  | .non, .int _, _, _ | .non, .lst _, _, _ | .non, .tup _, _, _
  | .lst _, .int _, _, _ | .lst _, .non, _, _ | .lst _, .tup _, _, _
  | .tup _, .int _, _, _ | .tup _, .non, _, _ | .tup _, .lst _, _, _ => by
    simp [D.py, PyData.eqv]
  | .bl _, _, h, _ | .str _, _, h, _ | .dic _, _, h, _ | .ins _ _ _, _, h, _
  | .scr _, _, h, _ | .dct _ _, _, h, _ => by simp [D.numB] at h
  | .int _, .bl _, _, h | .int _, .str _, _, h | .int _, .dic _, _, h
  | .int _, .ins _ _ _, _, h | .int _, .scr _, _, h | .int _, .dct _ _, _, h
  | .non, .bl _, _, h | .non, .str _, _, h | .non, .dic _, _, h
  | .non, .ins _ _ _, _, h | .non, .scr _, _, h | .non, .dct _ _, _, h
  | .lst _, .bl _, _, h | .lst _, .str _, _, h | .lst _, .dic _, _, h
  | .lst _, .ins _ _ _, _, h | .lst _, .scr _, _, h | .lst _, .dct _ _, _, h
  | .tup _, .bl _, _, h | .tup _, .str _, _, h | .tup _, .dic _, _, h
  | .tup _, .ins _ _ _, _, h | .tup _, .scr _, _, h | .tup _, .dct _ _, _, h => by simp [D.numB] at h
theorem eqvs_iff : ∀ (a b : List D), D.nums a = true → D.nums b = true →
    (PyData.eqvAll (D.pys a) (D.pys b) = true ↔ a = b)
  | [], [], _, _ => by simp [D.pys, PyData.eqvAll]
  | [], y :: ys, _, _ => by simp [D.pys, PyData.eqvAll]
  | x :: xs, [], _, _ => by simp [D.pys, PyData.eqvAll]
  | x :: xs, y :: ys, ha, hb => by
    rw [D.nums, Bool.and_eq_true] at ha hb
    rw [D.pys, D.pys, PyData.eqvAll, Bool.and_eq_true,
      eqv_iff x y ha.1 hb.1, eqvs_iff xs ys ha.2 hb.2, List.cons.injEq]
end
theorem flats_all (xs : List D) : D.nums xs = xs.all D.numB := by
  induction xs with
  | nil => rfl
  | cons x r ih => rw [D.nums, ih]; rfl
mutual
theorem flat_noDic : ∀ d : D, d.numB = true → d.noDic = true
  | .int _, _ => rfl
  | .non, _ => rfl
  | .lst xs, h => by rw [D.numB] at h; rw [D.noDic]; exact flats_noDic xs h
  | .tup xs, h => by rw [D.numB] at h; rw [D.noDic]; exact flats_noDic xs h
  | .bl _, h | .str _, h | .dic _, h | .ins _ _ _, h | .scr _, h | .dct _ _, h => by
    simp [D.numB] at h
theorem flats_noDic : ∀ xs : List D, D.nums xs = true → D.noDics xs = true
  | [], _ => rfl
  | x :: xs, h => by
    rw [D.nums, Bool.and_eq_true] at h
    rw [D.noDics, flat_noDic x h.1, flats_noDic xs h.2]; rfl
end
mutual
theorem flat_lay : ∀ d : D, d.numB = true → d.py.canLay0 = true
  | .int _, _ => by simp [D.py, PyData.canLay0]
  | .non, _ => by simp [D.py, PyData.canLay0]
  | .lst xs, h => by
    rw [D.numB] at h; rw [D.py, PyData.canLay0]; exact flats_lay xs h
  | .tup xs, h => by
    rw [D.numB] at h; rw [D.py, PyData.canLay0]; exact flats_lay xs h
  | .bl _, h | .str _, h | .dic _, h | .ins _ _ _, h | .scr _, h | .dct _ _, h => by
    simp [D.numB] at h
theorem flats_lay : ∀ xs : List D, D.nums xs = true →
    PyData.canLayAll0 (D.pys xs) = true
  | [], _ => by simp [D.pys, PyData.canLayAll0]
  | x :: xs, h => by
    rw [D.nums, Bool.and_eq_true] at h
    rw [D.pys, PyData.canLayAll0, flat_lay x h.1, flats_lay xs h.2]; rfl
end
mutual
theorem flat_noDict : ∀ d : D, d.numB = true → d.py.hasDict = false
  | .int _, _ => by simp [D.py, PyData.hasDict]
  | .non, _ => by simp [D.py, PyData.hasDict]
  | .lst xs, h => by
    rw [D.numB] at h; rw [D.py, PyData.hasDict]; exact flats_noDict xs h
  | .tup xs, h => by
    rw [D.numB] at h; rw [D.py, PyData.hasDict]; exact flats_noDict xs h
  | .bl _, h | .str _, h | .dic _, h | .ins _ _ _, h | .scr _, h | .dct _ _, h => by
    simp [D.numB] at h
theorem flats_noDict : ∀ xs : List D, D.nums xs = true →
    PyData.hasDictAll (D.pys xs) = false
  | [], _ => by simp [D.pys, PyData.hasDictAll]
  | x :: xs, h => by
    rw [D.nums, Bool.and_eq_true] at h
    rw [D.pys, PyData.hasDictAll, flat_noDict x h.1, flats_noDict xs h.2]; rfl
end
/-- data of whole numbers, at most so deep and so much -/
structure Num (k w : Nat) (d : D) : Prop extends Itm k w d where
  flat : d.numB = true
section
variable {k w k' w' : Nat} {d e : D} {xs : List D}
theorem Num.up (h : Num k w d) (hk : k ≤ k') (hw : w ≤ w') : Num k' w' d :=
  ⟨h.toItm.mono hk hw, h.flat⟩
theorem Num.shows (h : Num k w d) (hk : k ≤ 100) (hw : w ≤ 200000) :
    Shows d :=
  h.toItm.shows hk hw fun z => by rw [flat_noDict d h.flat] at z; cases z
theorem Num.eqs (h : Num k w d) (hk : k ≤ 64) : Eqs d :=
  ⟨flat_noDic d h.flat, by
    unfold SeqAt.shaped
    rw [flat_lay d h.flat, decide_eq_true (Nat.le_trans h.deep hk)]; rfl⟩
theorem Num.tup (h : ∀ x ∈ xs, Num k w x) :
    Num (k + 1) ((w + 1) * xs.length) (.tup xs) :=
  ⟨Itm.tup fun x hx => (h x hx).toItm, by
    rw [D.numB, flats_all, List.all_eq_true]
    exact fun x hx => (h x hx).flat⟩
theorem Num.lst (h : ∀ x ∈ xs, Num k w x) :
    Num (k + 1) ((w + 1) * xs.length) (.lst xs) :=
  ⟨Itm.lst fun x hx => (h x hx).toItm, by
    rw [D.numB, flats_all, List.all_eq_true]
    exact fun x hx => (h x hx).flat⟩
theorem Num.eqv (h : Num k w d) (h' : Num k' w' e) :
    (PyData.eqv d.py e.py = true ↔ d = e) := eqv_iff d e h.flat h'.flat
theorem Num.same (h : Num k w d) : PyData.eqv d.py d.py = true :=
  (eqv_iff d d h.flat h.flat).mpr rfl
theorem Num.other (h : Num k w d) (h' : Num k' w' e) (n : d ≠ e) :
    PyData.eqv d.py e.py = false := by
  cases q : PyData.eqv d.py e.py with
  | false => rfl
  | true => exact absurd ((h.eqv h').mp q) n
end
section
variable {K : PySem.W.Frag} {l : Option Addr} {ρ : Ro} {m : Nat}
theorem a_imp {tA : TA} {Ψ Ψ' : Nat → List D → Prop}
    (h : AvC K l tA ρ m Ψ) (q : ∀ n d, Ψ n d → Ψ' n d) :
    AvC K l tA ρ m Ψ' :=
  fun Z B H σ Q ok k => h Z B H σ Q ok fun v d n B2 H2 a b c e =>
    k v d n B2 H2 a b c (q n d e)
theorem t_imp {t : TT} {Θ Θ' : Nat → Bool → Prop}
    (h : TvC K l t ρ m Θ) (q : ∀ n b, Θ n b → Θ' n b) :
    TvC K l t ρ m Θ' :=
  fun Z B H σ Q ok k => h Z B H σ Q ok fun b n B2 H2 a c e =>
    k b n B2 H2 a c (q n b e)
end
end Wt

namespace Wt
open PySem PySem.Spec PyProof.Rows L2
/-- what a new object's own __init__ promises: the fields are what was handed in -/
def SpI (K : PySem.W.Frag) (C : Addr) (n1 n2 : Str) (pre : List D → Prop) :
    Sp := fun vs H Q _ => ∃ x dx B v1 v2 d1 d2, vs = [.ref x, v1, v2] ∧
  H x = some (.ins C dx []) ∧ SameB B H ∧ B x = none ∧ Is K B v1 d1 ∧
  Is K B v2 d2 ∧ pre [d1, d2] ∧
  ∀ B2 H2, Same B B2 → SameB B2 H2 →
    H2 x = some (.ins C dx [(n1, v1), (n2, v2)]) →
    (∀ b o, b ≠ x → NTab b → H b = some o → H2 b = some o) →
    (∀ a, H a ≠ none → B a = none → B2 a = none) → Q .non H2
structure Own2 (K : PySem.W.Frag) (C : Addr) (n1 n2 : Str) : Prop where
  cls : Cls K C
  a1 : NoAttr K C n1
  a2 : NoAttr K C n2
section
variable {K : PySem.W.Frag} {l : Option Addr} {ρ : Ro} {m : Nat}
variable {Φ : Nat → D → Prop} {Θ : Nat → Bool → Prop}
variable {ta te tl : TE} {t u : TT} {tA : TA} {C : Addr} {n1 n2 : Str}
variable {Z : Addr → Prop} {B H : Hp} {σ : L2.St}
theorem body_I {pre : List D → Prop} {vs : List V} {Q : VK} {E : XK}
    {N : List Str} (hN : N.length = 3) (c : Own2 K C n1 n2) (hne : n1 ≠ n2)
    (h : SpI K C n1 n2 pre vs H Q E)
    (hb : ∀ d1 d2, pre [d1, d2] →
      TvC K none t [none, some (.dat d1), some (.dat d2)] 0
        (fun _ b => b = false) ∧
      ∀ n, TvC K none u [none, some (.dat d1), some (.dat d2)] n
        (fun _ b => b = false)) :
    tSeq (tIfS t tNever tNext) (tSeq (tIfS u tNever tNext)
      (tSeq (sFld K (tVar 0) (tVar 1) n1) (sFld K (tVar 0) (tVar 2) n2)))
      { nx := fun _ H' => Q .non H', rt := Q } (start N vs) H := by
  obtain ⟨x, dx, B, v1, v2, d1, d2, rfl, hx, sb, hBx, i1, i2, hp, k⟩ := h
  obtain ⟨p1, p2⟩ := hb d1 d2 hp
  have es : start N [.ref x, v1, v2] = [some (.ref x), some v1, some v2] := by
    unfold L2.start
    simp [hN]
  rw [es]
  have ok : Ok K none (fun a => H a ≠ none ∧ B a = none ∧ NTab a) 0 B H
      [some (.ref x), some v1, some v2]
      [none, some (.dat d1), some (.dat d2)] := by
    refine ⟨⟨sb.1, fun a e => (nomatch e), fun z h => ⟨h.1, h.2.1, nofun, h.2.2⟩, sb.2⟩, rfl,
      fun i s e => ?_, fun i j ds1 es a n po p2 e1 => ?_⟩
    · match i, e with
      | 1, e => cases e; exact ⟨_, rfl, i1⟩
      | 2, e => cases e; exact ⟨_, rfl, i2⟩
    · match i, e1 with
      | 1, e => cases e; cases po
      | 2, e => cases e; cases po
  have zx : H x ≠ none ∧ B x = none ∧ NTab x := ⟨by rw [hx]; exact nofun, hBx, sb.2.nt fun ps e => by rw [hx] at e; cases e⟩
  refine p1 _ B H _ _ ok fun b m1 B1 H1 o1 f1 e1 => ?_
  subst e1
  refine p2 m1 _ B1 H1 _ _ o1 fun b m2 B2 H2 o2 f2 e2 => ?_
  subst e2
  have fr := f1.trans f2
  have hx2 : H2 x = some (.ins C dx []) := (fr.kept x zx).trans hx
  have zb := (o2.zs x zx).2.1
  refine ⟨v1, rfl, .ref x, rfl, x, C, dx, [], rfl, hx2, c.cls, c.a1, by simp, ?_⟩
  refine ⟨v2, rfl, .ref x, rfl, x, C, dx, _, rfl, upd_same, c.cls, c.a2,
    by simp [putF], ?_⟩
  refine k B2 _ fr.sub ⟨fun b o e => ?_, (o2.tab.write zx.2.2).write zx.2.2⟩ ?_ (fun b o n nt e => ?_)
    fun a h1 h2 => (Classical.em (NTab a)).elim (fun nt => (o2.zs a ⟨h1, h2, nt⟩).2.1) fun nt => o2.tab.out nt
  · have n : b ≠ x := fun z => by subst z; rw [zb] at e; cases e
    rw [upd_ne n, upd_ne n]
    exact o2.sub b o e
  · rw [upd_same]
    simp [putF, hne]
  · rw [upd_ne n, upd_ne n]
    cases q : B b with
    | none => rw [fr.kept b ⟨by rw [e]; exact nofun, q, nt⟩]; exact e
    | some y =>
      rw [sb.1 b y q] at e
      cases e
      exact o2.sub b _ (fr.sub b _ q)
/-- C(a, b) -/
theorem e_make {pre : List D → Prop} {E : XK}
    (h : AvC K l tA ρ m fun m1 ds => ∃ d1 d2, ds = [d1, d2] ∧
      pre [d1, d2] ∧ Φ m1 (.ins C [n1, n2] [d1, d2])) :
    EvC K l (tMake C (SpI K C n1 n2 pre) [] E tA) ρ m Φ := by
  intro Z B H σ Q ok k
  refine h Z B H σ _ ok fun vs ds m1 B1 H1 o1 f1 i1 g1 => ?_
  obtain ⟨d1, d2, rfl, hp, q⟩ := g1
  obtain ⟨v1, v2, rfl, a1, a2⟩ := isAll2 i1
  intro x dx hx hdx hne
  obtain ⟨oJ, fJ⟩ := o1.junk (o := .own x) hdx
  have hx' : upd H1 dx (.own x) x = none := by
    rw [upd_ne (fun z => hne z.symm)]; exact hx
  have oA := oJ.aside (o := .ins C dx []) hx'
  have hz : ¬ Z x := fun z => (o1.zs x z).1 hx
  have hBx : B1 x = none := o1.same0 hx
  refine ⟨x, dx, B1, v1, v2, d1, d2, rfl, upd_same, ⟨oA.sub, oA.tab⟩, hBx, a1, a2, hp,
    fun B2 H2 s1 s2 e2 kp fr => ⟨rfl, ?_⟩⟩
  have oW := oA.write (p := x) (o := .ins C dx [(n1, v1), (n2, v2)]) (.inr rfl)
  have hst : Ok K l (fun a => Z a ∨ a = x) m1 B2 H2 σ ρ ∧
      Fr (fun a => Z a ∨ a = x) B1 (upd (upd (upd H1 dx (.own x)) x (.ins C dx []))
        x (.ins C dx [(n1, v1), (n2, v2)])) B2 H2 := by
    refine oW.step (B2 := B2) (H2 := H2) (m' := m1) s1 s2
      (fun a e => ?_) (fun a o n e => ?_) (fun a n e => ?_)
    · obtain ⟨g, s, cc, e1, r⟩ := (oA.hand a e).1
      have n : a ≠ x := fun w => by
        subst w
        exact (o1.hand a e).1.some hx
      exact ⟨g, s, cc, kp a _ n (oA.tab.ntLst e1) e1, r⟩
    · by_cases w : a = x
      · subst w
        rw [upd_same] at e
        cases e
        exact e2
      · rw [upd_ne w] at e
        exact kp a o w n.2 e
    · by_cases w : a = x
      · subst w
        exact fr a (by rw [upd_same]; exact nofun) e
      · rw [upd_ne w] at n
        exact fr a n e
  obtain ⟨oS, fS⟩ := hst
  have oT := oS.thaw e2 hz
  have sm : Same B2 (upd B2 x (.ins C dx [(n1, v1), (n2, v2)])) :=
    same_new (oS.zs x (.inr rfl)).2.1
  refine k (.ref x) _ m1 _ H2 oT (f1.trans ⟨s1.trans sm, fun z hz' => ?_⟩)
    (.ins (dx := dx) (xs := [v1, v2]) upd_same
      (((IsAll.cons a1 (.cons a2 .nil)).mono s1).mono sm)) q
  rw [fS.kept z (.inl hz')]
  rw [upd_ne (fun (w : z = x) => hz (w ▸ hz')),
    upd_ne (fun (w : z = x) => hz (w ▸ hz'))]
  exact fJ.kept z hz'
theorem e_fld1 (c : Own2 K C n1 n2)
    (h : EvC K l ta ρ m fun m1 x => ∃ d1 d2, x = .ins C [n1, n2] [d1, d2] ∧
      Φ m1 d1) : EvC K l (tFld K ta n1) ρ m Φ := by
  intro Z B H σ Q ok k
  refine h Z B H σ _ ok fun v x m1 B1 H1 o1 f1 i1 g1 => ?_
  obtain ⟨d1, d2, rfl, q⟩ := g1
  cases i1 with
  | @ins a dx _ _ xs _ ha is =>
    obtain ⟨v1, v2, rfl, a1, a2⟩ := isAll2 is
    refine ⟨a, C, dx, _, v1, rfl, o1.sub _ _ ha, c.cls, c.a1, ?_,
      k _ _ m1 B1 H1 o1 f1 a1 q⟩
    simp
theorem e_fld2 (c : Own2 K C n1 n2) (hne : n1 ≠ n2)
    (h : EvC K l ta ρ m fun m1 x => ∃ d1 d2, x = .ins C [n1, n2] [d1, d2] ∧
      Φ m1 d2) : EvC K l (tFld K ta n2) ρ m Φ := by
  intro Z B H σ Q ok k
  refine h Z B H σ _ ok fun v x m1 B1 H1 o1 f1 i1 g1 => ?_
  obtain ⟨d1, d2, rfl, q⟩ := g1
  cases i1 with
  | @ins a dx _ _ xs _ ha is =>
    obtain ⟨v1, v2, rfl, a1, a2⟩ := isAll2 is
    refine ⟨a, C, dx, _, v2, rfl, o1.sub _ _ ha, c.cls, c.a2, ?_,
      k _ _ m1 B1 H1 o1 f1 a2 q⟩
    simp [List.lookup, beq_eq_false_iff_ne.mpr (Ne.symm hne)]
/-- o.m() that promises as a function does -/
theorem e_meth0 {pre : List D → Prop} {F : List D → D} {E : XK} {me : Str}
    (hm1 : me ≠ n1) (hm2 : me ≠ n2)
    (h : EvC K l ta ρ m fun m1 x => ∃ d1 d2, x = .ins C [n1, n2] [d1, d2] ∧
      pre [x] ∧ Φ m1 (F [x])) :
    EvC K l (tMeth C me (SpP K pre F) [] E ta tNil) ρ m Φ := by
  intro Z B H σ Q ok k
  refine h Z B H σ _ ok fun v x m1 B1 H1 o1 f1 i1 g1 => ?_
  obtain ⟨d1, d2, rfl, hp, q⟩ := g1
  have i1' := i1
  cases i1 with
  | @ins a dx _ _ xs _ ha is =>
    obtain ⟨v1, v2, rfl, a1, a2⟩ := isAll2 is
    refine ⟨a, dx, _, rfl, o1.sub _ _ ha, ?_, ?_⟩
    · simp [List.lookup, beq_eq_false_iff_ne.mpr hm1,
        beq_eq_false_iff_ne.mpr hm2]
    · exact v_P (E := E) hp q Z B1 H1 σ [.ref a] Q o1 (.cons i1' .nil)
        fun v d m2 B2 H2 o2 f2 i2 g2 => k v d m2 B2 H2 o2 (f1.trans f2) i2 g2
end
section
variable {X : Cx} {K : PySem.W.Frag} {e o value : Expr} {f : Str}
variable {pos pos' : Pos} {ta tv : TE}
theorem pe_fldK (hK : X.K = K) (he : PE X e ta)
    (hb : attributeBase e f X.env (eval e X.env) = eval e X.env) :
    PE X (.Attribute e f pos) (tFld K ta f) := by
  subst hK
  exact pe_fld he hb
theorem ps_fldK (hK : X.K = K) (ha : PE X o ta) (hv : PE X value tv)
    (hs : swapsWith value (some (.Attribute o f pos')) pos.line X.env =
      pure false) :
    PS X (.Assign [.Attribute o f pos'] value pos) (sFld K ta tv f) := by
  subst hK
  exact ps_fld ha hv hs
end
section
variable {K : PySem.W.Frag} {l : Option Addr} {ρ : Ro} {m : Nat}
variable {Nx : Nat → Ro → Prop} {Rt : Nat → D → Prop} {tA : TA} {te : TE}
theorem s_par3 {i j k : Nat} (h : AvC K l tA ρ m fun m1 ds => ∃ x y z,
      ds = [x, y, z] ∧ Nx m1 (((ρ.set i (some (.dat x))).set j
        (some (.dat y))).set k (some (.dat z)))) :
    SvC K l (tPar3 i j k tA) ρ m Nx Rt := by
  intro Z B H σ W ok kk _
  refine h Z B H σ _ ok fun vs ds m1 B1 H1 o1 f1 i1 g1 => ?_
  obtain ⟨x, y, z, rfl, q⟩ := g1
  obtain ⟨u, v, w, rfl, h1, h2, h3⟩ := isAll3 i1
  exact ⟨u, v, w, rfl, kk _ _ m1 B1 H1 (((o1.set h1).set h2).set h3) f1 q⟩
end
section
variable {K : PySem.W.Frag} {l : Option Addr} {ρ : Ro} {m : Nat}
variable {Nx : Nat → Ro → Prop} {Rt : Nat → D → Prop} {tA : TA} {te : TE}
/-- a, b = x -/
theorem s_unp2 {i j : Nat} (h : EvC K l te ρ m fun m1 d => ∃ x y,
      d = .tup [x, y] ∧ Nx m1 ((ρ.set i (some (.dat x))).set j
        (some (.dat y)))) :
    SvC K l (tAsg te (g2 K i j)) ρ m Nx Rt := by
  intro Z B H σ W ok kk _
  refine h Z B H σ _ ok fun v d m1 B1 H1 o1 f1 i1 g1 => ?_
  obtain ⟨x, y, rfl, q⟩ := g1
  cases i1 with
  | @tup a us _ hu r =>
    obtain ⟨u, w, rfl, h1, h2⟩ := isAll2 r
    exact ⟨a, [u, w], rfl, sameT o1.sub hu, rfl, u, [w], rfl, w, [], rfl, rfl,
      kk _ _ m1 B1 H1 ((o1.set h1).set h2) f1 q⟩
theorem s_unp3Own {i j k : Nat} (hij : i ≠ j) (hik : i ≠ k)
    (h : AvC K l tA ρ m fun m1 ds => ∃ y z, ds = [y, z] ∧
      Nx m1 (((ρ.set i (some (.own []))).set j (some (.dat y))).set k
        (some (.dat z)))) :
    SvC K l (tAsg (tTupC (tCons (tLst tNil) tA)) (g3 K i j k)) ρ m Nx Rt := by
  intro Z B H σ W ok kk _
  refine ⟨Nat.zero_le _, fun p hp => ?_⟩
  have hz : ¬ Z p := fun z => (ok.zs p z).1 hp
  refine h _ B _ σ _ (ok.aside (o := .lst []) hp)
    fun vs ds m1 B1 H1 o1 f1 i1 g1 => ?_
  obtain ⟨y, z, rfl, q⟩ := g1
  obtain ⟨v, w, rfl, h2, h3⟩ := isAll2 i1
  have hp1 : H1 p = some (.lst []) := (f1.kept p (.inr rfl)).trans upd_same
  refine ⟨by show 3 ≤ sizeLine; decide, fun T ob hT _ _ => ?_⟩
  obtain ⟨oJ, fJ⟩ := o1.junk (o := .frz ob (.tup [.ref p, v, w])) hT
  have npT : p ≠ T := fun e => by rw [e, hT] at hp1; cases hp1
  have hp2 : upd H1 T (.frz ob (.tup [.ref p, v, w])) p = some (.lst []) := by
    rw [upd_ne npT]; exact hp1
  have o2 := (((oJ.set (i := j) h2).set (i := k) h3).setOwn (i := i) hz hp2 .nil)
  rw [List.set_comm _ _ (Ne.symm hik), List.set_comm _ _ (Ne.symm hij),
    List.set_comm _ _ (Ne.symm hik) (l := ρ.set j _),
    List.set_comm _ _ (Ne.symm hij) (l := ρ)] at o2
  refine ⟨T, _, rfl, sqF upd_same, rfl, .ref p, [v, w], rfl, v, [w], rfl, w, [],
    rfl, rfl, kk _ _ m1 B1 _ o2 ?_ q⟩
  exact ⟨f1.sub, fun z hz' => (fJ.kept z (.inl hz')).trans
    ((f1.kept z (.inl hz')).trans (upd_ne fun e => hz (e ▸ hz')))⟩
end
end Wt

namespace Wt
open PySem PySem.Spec PyProof.Rows L2
section
variable {K : PySem.W.Frag} {l : Option Addr} {ρ : Ro} {m : Nat}
variable {Φ : Nat → D → Prop} {Θ : Nat → Bool → Prop}
variable {Nx : Nat → Ro → Prop} {Rt : Nat → D → Prop} {ts tb : TS}
variable {ta te tl : TE} {t u : TT} {tA : TA}
variable {Z : Addr → Prop} {B H : Hp} {σ : L2.St}
/-- f(_law_hand(script, k)) -/
theorem e_handCall {pre : List D → Prop} {pre2 : Nat → List D → Prop}
    {Ψ : List D → Nat → Nat → D → Prop} {E E2 : XK} {j c : Nat}
    {ns : List Int} {n : Int} (hj : ρ[j]? = some (some (.dat (.scr ns))))
    (hc : ρ[c]? = some (some (.dat (.int n)))) (hp : pre [.scr ns, .int n])
    (hp2 : pre2 0 []) (q : ∀ m2 d, Ψ [] 0 m2 d → Φ m d) :
    EvC K none (tCall (SpH K pre2 Ψ) [] E2 (tCons (tCall (SpR K pre
      fun _ d => isHand d) [] E (tCons (tVar j) (tCons (tVar c) tNil))) tNil))
      ρ m Φ := by
  intro Z B H σ Q ok k
  obtain ⟨v1, e1, z1⟩ := ok.sl j _ hj
  obtain ⟨v2, e2, z2⟩ := ok.sl c _ hc
  refine ⟨v1, e1, v2, e2, ?_⟩
  cases z2
  cases z1 with
  | @scr s _ hs =>
    obtain ⟨B0, s0, hs0, hf, t0⟩ := handB0 ok.tab hs
    have z0 : IsAll K B0 [V.ref s, .int n] [.scr ns, .int n] :=
      .cons (.scr hs0) (.cons (.int n) .nil)
    show SpR K pre (fun _ d => isHand d) ([V.ref s, .int n] ++ []) H _ E
    rw [List.append_nil]
    refine ⟨B0, _, ⟨s0.trans ok.sub, t0⟩, z0, hp, fun v d B2 H2 f1 f2 f3 f4 p iv => ?_⟩
    obtain ⟨g, sd, rfl, b1, b2, b3, b4⟩ := p
    cases iv with
    | @lst a xs _ ha is =>
      have ex : xs = [.int g, .int sd, .int 0] := by
        obtain ⟨x1, x2, x3, rfl, y1, y2, y3⟩ := isAll3 is
        cases y1
        cases y2
        cases y3
        rfl
      subst ex
      have fresh : H a = none := by
        cases w : H a with
        | none => rfl
        | some o =>
          exfalso
          cases y : B0 a with
          | none =>
            rw [f4 a (by rw [w]; exact nofun) y] at ha
            cases ha
          | some x =>
            rw [f1 a _ y] at ha
            rcases hf a x y with ⟨o', u, rfl⟩ | ⟨q', rfl⟩
            · cases ha
            · exact noCode (Option.some.inj ha)
      have hB : B a = none := ok.same0 fresh
      have hh : Hand H2 a 0 :=
        ⟨g, sd, 0, f3.1 _ _ ha, b1, b2, b3, b4, by omega, by omega⟩
      obtain ⟨B', sB, sH, nB, tB⟩ := handB1 ok.sub ok.tab s0 f2 f3 f4 ha hB
      refine ⟨a, [], B', [], 0, rfl, ⟨sH, tB.2⟩, hh, tB.1, .nil, hp2,
        fun v d m' B3 H3 h1 h2 h3 h4 h5 h6 h7 => ?_⟩
      have kp : ∀ b o, NTab b → H b = some o → H3 b = some o := fun b o n e =>
        h4 b o (fun w => by rw [w, fresh] at e; cases e) n (f2 b o n e)
      obtain ⟨o3, f3'⟩ := ok.step (B2 := B3) (H2 := H3) (m' := m) (sB.trans h2) h3
        (fun a e => (nomatch e)) (fun b o n e => kp b o n.2 e)
        (fun b w e => by
          by_cases nt : NTab b
          · refine h5 b ?_ (nB b e w)
            cases y : H b with
            | none => exact absurd y w
            | some o => rw [f2 b o nt y]; exact nofun
          · exact h3.2.out nt)
      exact k v d m B3 H3 o3 f3' h7 (q m' d h6)
/-- a turn of a comprehension over rows of pairs -/
theorem lcw_pair {A : Addr} {I : Nat → Nat → List D → Prop} {c i j : Nat}
    {x : V} {H' : Hp} {P : D → D → Prop} (hz : ¬ Z A)
    (hi : ρ[i]? = some none) (hj : ρ[j]? = some none) (hij : i ≠ j)
    (w : LcW K l Z ρ σ B H A I c H')
    (hx : ∀ B', Same B B' → ∃ d e, Is K B' x (.tup [d, e]) ∧ P d e)
    (hc : c < 100000)
    (he : ∀ d e n acc, P d e → I c n acc → acc.length = c →
      EvC K l te ((ρ.set i (some (.dat d))).set j (some (.dat e))) n
        fun n2 y => I (c + 1) n2 (acc ++ [y])) :
    g2 K i j x (wipe σ [i, j]) H' fun σ2 H2 =>
      wipe σ2 [i, j] = wipe σ [i, j] ∧ tYes σ2 H2 fun b H3 =>
        if b = true then te σ2 H3 fun y H4 =>
          ∃ acc, H4 A = some (.lst acc) ∧ acc.length < sizeLine ∧
            LcW K l Z ρ σ B H A I (c + 1) (upd H4 A (.lst (acc ++ [y])))
        else LcW K l Z ρ σ B H A I (c + 1) H3 := by
  obtain ⟨n, acc, xs, B', ok, fr, hA, is, hI, hl⟩ := w
  obtain ⟨d, e, hd, hP⟩ := hx B' fr.sub
  cases hd with
  | @tup T us _ hu r =>
    obtain ⟨u, v, rfl, p1, p2⟩ := isAll2 r
    refine ⟨T, [u, v], rfl, sameT ok.sub hu, rfl, u, [v], rfl, v, [], rfl,
      rfl, ?_⟩
    have e1 : ((wipe σ [i, j]).set i (some u)).set j (some v) =
        (σ.set i (some u)).set j (some v) := by
      show ((((σ.set j none).set i none).set i (some u)).set j (some v)) = _
      rw [List.set_set, List.set_comm _ _ hij, List.set_set,
        List.set_comm _ _ (Ne.symm hij)]
    have e2 : wipe ((σ.set i (some u)).set j (some v)) [i, j] =
        wipe σ [i, j] := by
      show (((σ.set i (some u)).set j (some v)).set j none).set i none =
        (σ.set j none).set i none
      rw [List.set_set, List.set_comm _ _ hij, List.set_set]
    unfold tYes
    dsimp only
    rw [e1, if_pos rfl]
    refine ⟨e2, ?_⟩
    refine he d e n acc hP hI hl _ B' _ _ _ ((ok.set p1).set p2)
      fun v y2 n2 B2 H2 o2 f2 i2 g2 => ?_
    have hA2 : H2 A = some (.lst xs) := (f2.kept A (.inr rfl)).trans hA
    have hj2 : (ρ.set i (some (.dat d)))[j]? = some none := by
      rw [List.getElem?_set_ne hij]; exact hj
    refine ⟨xs, hA2, ?_, n2, acc ++ [y2], xs ++ [v], B2,
      ((o2.unset hj2).unset hi).write (.inr rfl), ?_, upd_same,
      (is.mono f2.sub).append (.cons i2 .nil), g2, by simp [hl]⟩
    · rw [is.length, hl]
      exact Nat.lt_of_lt_of_le hc (by decide)
    · refine ⟨fr.sub.trans f2.sub, fun z hz' => ?_⟩
      rw [upd_ne (fun (e : z = A) => hz (e ▸ hz'))]
      exact (f2.kept z (.inl hz')).trans (fr.kept z hz')
def D.isNon : D → Bool
  | .non => true
  | _ => false
theorem v_isN {d : D} (q : Φ m (.bl d.isNon)) :
    VvC K l ρ (fun vs H Q => ∃ x y, vs = [x, y] ∧ rIsN x y H Q)
      [d, .non] m Φ := by
  intro Z B H σ vs Q ok is k
  obtain ⟨v, w, rfl, h, h2⟩ := isAll2 is
  cases h2
  refine ⟨_, _, rfl, rfl, k _ _ m B H ok Fr.refl (.bl _) ?_⟩
  have e : decide (v = V.non) = d.isNon := by
    cases h <;> rfl
  rw [e]
  exact q
end
end Wt

namespace Wt
open PySem PySem.Spec PyProof.Rows L2
theorem r_map0 {α β : Type} {f : α → β} : List.map f [] = [] := rfl
theorem r_map1 {α β : Type} {f : α → β} {a : α} {l : List α} :
    List.map f (a :: l) = f a :: List.map f l := rfl
theorem r_app0 {α : Type} {l : List α} : [] ++ l = l := rfl
theorem r_app1 {α : Type} {a : α} {k l : List α} :
    (a :: k) ++ l = a :: (k ++ l) := rfl
theorem r_set0 {α : Type} {a x : α} {l : List α} :
    (a :: l).set 0 x = x :: l := rfl
theorem r_set1 {α : Type} {a x : α} {l : List α} {n : Nat} :
    (a :: l).set (n + 1) x = a :: l.set n x := rfl
theorem r_rep0 {α : Type} {x : α} : List.replicate 0 x = [] := rfl
theorem r_rep1 {α : Type} {x : α} {n : Nat} :
    List.replicate (n + 1) x = x :: List.replicate n x := rfl
/-- some slots told anew -/
def put (ρ : Ro) : List Nat → List (Option Sl) → Ro
  | i :: is, x :: xs => put (ρ.set i x) is xs
  | _, _ => ρ
theorem dmap_of {α : Type} {g : α → D} : ∀ {ys : List D}
    {P : Nat → α → Prop},
    (∀ (i : Nat) y, ys[i]? = some y → ∃ x, y = g x ∧ P i x) →
    ∃ xs : List α, ys = xs.map g ∧ ∀ (i : Nat) x, xs[i]? = some x → P i x
  | [], _, _ => ⟨[], rfl, fun i x h => by simp at h⟩
  | y :: ys, P, h => by
    obtain ⟨x, rfl, hx⟩ := h 0 y rfl
    obtain ⟨xs, rfl, hs⟩ := dmap_of (ys := ys) (P := fun i => P (i + 1))
      fun i y e => h (i + 1) y (by rw [List.getElem?_cons_succ]; exact e)
    refine ⟨x :: xs, rfl, fun i z e => ?_⟩
    cases i with
    | zero => cases e; exact hx
    | succ i => rw [List.getElem?_cons_succ] at e; exact hs i z e
theorem take_snoc' {α : Type} {xs : List α} {c : Nat} {x : α}
    (h : xs[c]? = some x) : xs.take (c + 1) = xs.take c ++ [x] := by
  rw [List.take_add_one, h]; rfl
theorem get_snoc {α : Type} {P : Nat → α → Prop} {xs : List α} {y : α}
    {c : Nat} (hl : xs.length = c) (h : ∀ (i : Nat) x, xs[i]? = some x → P i x)
    (hy : P c y) : ∀ (i : Nat) x, (xs ++ [y])[i]? = some x → P i x := by
  intro i x e
  by_cases hi : i < xs.length
  · rw [List.getElem?_append_left hi] at e
    exact h i x e
  · have : i = c := by
      have := (List.getElem?_eq_some_iff.mp e).1
      simp at this
      omega
    subst this
    rw [List.getElem?_append_right (by omega)] at e
    have e0 : i - xs.length = 0 := by omega
    rw [e0] at e
    cases e
    exact hy
section
variable {K : PySem.W.Frag} {l : Option Addr} {ρ : Ro} {m : Nat}
variable {Φ : Nat → D → Prop} {Θ : Nat → Bool → Prop}
variable {Nx : Nat → Ro → Prop} {Rt : Nat → D → Prop} {ts tb : TS}
variable {ta te tl : TE} {t u : TT} {tA tK : TA}
theorem e_lcTf {j : Nat} (hj : ρ[j]? = some none)
    (h : EvC K l tl ρ m fun m1 x => ∃ ds, x = .tup ds ∧
      ∃ (α : Type) (xs : List α) (g f : α → D), ds = xs.map g ∧
      xs.length ≤ 50000 ∧
      (∀ (i : Nat) a, xs[i]? = some a →
        EvC K l te (ρ.set j (some (.dat (g a)))) m1
          fun n2 y => n2 = m1 ∧ y = f a) ∧ Φ m1 (.lst (xs.map f))) :
    EvC K l (tLc (iTup K tl) (gName j) tYes te [j]) ρ m Φ := by
  refine e_lcT hj (e_imp h fun m1 x q => ?_)
  obtain ⟨ds, rfl, α, xs, g, f, rfl, hc, hb, hq⟩ := q
  refine ⟨_, rfl, by rw [List.length_map]; exact hc, fun i n acc => n = m1 ∧
    acc = (xs.map f).take i, ⟨rfl, rfl⟩, ?_, ?_⟩
  · intro i n acc d hd hI _
    obtain ⟨rfl, rfl⟩ := hI
    rw [List.getElem?_map] at hd
    cases e : xs[i]? with
    | none => rw [e] at hd; cases hd
    | some a =>
      rw [e] at hd
      cases hd
      refine e_imp (hb i a e) fun n2 y q => ?_
      obtain ⟨rfl, rfl⟩ := q
      refine ⟨rfl, (take_snoc' ?_).symm⟩
      rw [List.getElem?_map, e]; rfl
  · intro n acc hl hI
    obtain ⟨rfl, rfl⟩ := hI
    rw [List.length_map, List.take_of_length_le (by simp)]
    exact hq
theorem e_lcRd {j : Nat} (hj : ρ[j]? = some none)
    (h : AvC K l tA ρ m fun m1 x => ∃ z : Int, x = [.int z] ∧
      ∃ (c k : Nat) (P : Nat → D → Prop), z = c ∧ c ≤ 50000 ∧
      (∀ i n : Nat, i < c → n ≤ m1 + k * i →
        EvC K l te (ρ.set j (some (.dat (.int i)))) n
          fun n2 y => n2 ≤ n + k ∧ P i y) ∧
      ∀ n ys, n ≤ m1 + k * c → ys.length = c →
        (∀ (i : Nat) y, ys[i]? = some y → P i y) → Φ n (.lst ys)) :
    EvC K l (tLc (iRng1 tA) (gName j) tYes te [j]) ρ m Φ := by
  refine e_lcR hj (a_imp h fun m1 x q => ?_)
  obtain ⟨z, rfl, c, k, P, rfl, hc, hb, hq⟩ := q
  refine ⟨_, rfl, by omega, by omega, fun i n acc => n ≤ m1 + k * i ∧
    ∀ (i : Nat) y, acc[i]? = some y → P i y,
    ⟨Nat.le_add_right _ _, fun i y e => by simp at e⟩, ?_, ?_⟩
  · intro i n acc hi hI hal
    rw [Int.toNat_natCast] at hi
    refine e_imp (hb i n hi hI.1) fun n2 y q => ⟨?_, get_snoc hal hI.2 q.2⟩
    have := hI.1
    have := q.1
    rw [Nat.mul_add, Nat.mul_one]
    omega
  · intro n acc hl hI
    rw [Int.toNat_natCast] at hl hI
    exact hq n acc hI.1 hl hI.2
/-- an item, by a number from 0 -/
theorem v_ixN {ds : List D} {d : D} {c : Nat} (hd : ds[c]? = some d)
    (q : Φ m d) :
    VvC K l ρ (fun vs H Q => ∃ x y, vs = [x, y] ∧ rIxT K x y H Q)
      [.tup ds, .int (c : Int)] m Φ :=
  v_ixT (by omega) (by rw [Int.toNat_natCast]; exact hd) q
theorem v_ixNL {ds : List D} {d : D} {c : Nat} (hd : ds[c]? = some d)
    (q : Φ m d) :
    VvC K l ρ (fun vs H Q => ∃ x y, vs = [x, y] ∧ rIxL K x y H Q)
      [.lst ds, .int (c : Int)] m Φ :=
  v_ixL (by omega) (by rw [Int.toNat_natCast]; exact hd) q
theorem v_neSame {a : Str} (q : Φ m (.bl false)) :
    VvC K l ρ (fun vs H Q => ∃ x y, vs = [x, y] ∧ rNe x y H Q)
      [.str a, .str a] m Φ :=
  v_neS (by rw [decide_eq_true rfl]; exact q)
theorem v_eqSame {a : Str} (q : Φ m (.bl true)) :
    VvC K l ρ (fun vs H Q => ∃ x y, vs = [x, y] ∧ rEq x y H Q)
      [.str a, .str a] m Φ :=
  v_eqS (by rw [decide_eq_true rfl]; exact q)
theorem v_isNn (q : Φ m (.bl true)) :
    VvC K l ρ (fun vs H Q => ∃ x y, vs = [x, y] ∧ rIsN x y H Q)
      [.non, .non] m Φ := v_isN q
theorem v_eqDn {a b : D} {k w k' w' : Nat} (h : Num k w a) (h' : Num k' w' b)
    (hk : k ≤ 64) (hk' : k' ≤ 64) [Decidable (a = b)]
    (q : Φ m (.bl (decide (a = b)))) :
    VvC K l ρ (fun vs H Q => ∃ x y, vs = [x, y] ∧ rEqD K x y H Q)
      [a, b] m Φ := by
  refine v_eqD (h.eqs hk) (h'.eqs hk') ?_
  have e : PyData.eqv a.py b.py = decide (a = b) := by
    rw [Bool.eq_iff_iff, h.eqv h', decide_eq_true_eq]
  rw [e]
  exact q
end
end Wt

namespace Wt
open PySem PySem.Spec PyProof.Rows L2
section
variable {K : PySem.W.Frag} {l : Option Addr} {ρ : Ro} {m : Nat}
variable {Φ : Nat → D → Prop} {Θ : Nat → Bool → Prop}
variable {Nx : Nat → Ro → Prop} {Rt : Nat → D → Prop} {ts tb : TS}
variable {ta te tl : TE} {t u : TT} {tA tK : TA}
/-- o.m(), the fields known -/
theorem e_methO {C : Addr} {n1 n2 me : Str} {pre : List D → Prop}
    {F : List D → D} {E : XK} (c : Own2 K C n1 n2) (hm1 : me ≠ n1)
    (hm2 : me ≠ n2)
    (h : EvC K l ta ρ m fun m1 x => ∃ d1 d2, x = .ins C [n1, n2] [d1, d2] ∧
      pre [x] ∧ Φ m1 (F [x])) :
    EvC K l (tMeth C me (SpP K pre F) [] E ta tNil) ρ m Φ :=
  e_meth0 hm1 hm2 h
end
end Wt

namespace Wt
open PySem PySem.Spec PyProof.Rows L2
section
variable {K : PySem.W.Frag} {l : Option Addr} {ρ : Ro} {m : Nat}
variable {Φ : Nat → D → Prop} {Θ : Nat → Bool → Prop}
variable {Nx : Nat → Ro → Prop} {Rt : Nat → D → Prop} {ts tb : TS}
variable {ta te tl ti : TE} {t u tt : TT} {tA tK : TA}
variable {Z Z' : Addr → Prop} {B H : Hp} {σ : L2.St}
theorem isAll_rng {B : Hp} (n : Nat) : IsAll K B (rgV 0 (n : Int))
    ((List.range n).map fun (i : Nat) => D.int i) := by
  unfold rgV
  rw [show ((n : Int) - 0).toNat = n by omega]
  induction n with
  | zero => exact .nil
  | succ n ih =>
    rw [List.range_succ, List.map_append, List.map_append]
    refine ih.append (.cons ?_ .nil)
    show Is K B (.int (0 + (n : Int))) (.int n)
    rw [Int.zero_add]
    exact .int _
theorem e_tupRg (h : EvC K l ta ρ m fun m1 d => ∃ z, d = .int z ∧
      ∃ n : Nat, z = n ∧ n ≤ 10000 ∧
      Φ m1 (.tup ((List.range n).map fun (i : Nat) => .int i))) :
    EvC K l (tTupRgC (tRg1 ta)) ρ m Φ := by
  intro Z B H σ Q ok k
  refine h Z B H σ _ ok fun v d m1 B1 H1 o1 f1 i1 g1 => ?_
  obtain ⟨z, rfl, n, rfl, hn, q⟩ := g1
  cases i1
  refine ⟨n, rfl, RgOk.of_le (by omega) (by omega) (by omega) (by omega),
    fun p ob hp hd _ => ?_⟩
  obtain ⟨o2, f2⟩ := o1.new (o := .frz ob (.tup (rgV 0 n))) hp
  exact k _ _ m1 _ _ o2 (f1.trans f2) (.newT upd_same hd
    (isAll_rng n)) q
theorem e_lstRg (h : EvC K l ta ρ m fun m1 d => ∃ z, d = .int z ∧
      ∃ n : Nat, z = n ∧ n ≤ 10000 ∧
      Φ m1 (.lst ((List.range n).map fun (i : Nat) => .int i))) :
    EvC K l (tLstRg (tRg1 ta)) ρ m Φ := by
  intro Z B H σ Q ok k
  refine h Z B H σ _ ok fun v d m1 B1 H1 o1 f1 i1 g1 => ?_
  obtain ⟨z, rfl, n, rfl, hn, q⟩ := g1
  cases i1
  refine ⟨n, rfl, RgOk.of_le (by omega) (by omega) (by omega) (by omega),
    fun p hp => ?_⟩
  obtain ⟨o2, f2⟩ := o1.new (o := .lst (rgV 0 n)) hp
  exact k _ _ m1 _ _ o2 (f1.trans f2) (.lst upd_same (isAll_rng n)) q
def LcX (K : PySem.W.Frag) (l : Option Addr) (Z : Addr → Prop) (ρ : Ro)
    (σ : L2.St) (B H : Hp) (A : Addr) (I : Nat → Nat → List D → Prop)
    (i : Nat) (H' : Hp) : Prop :=
  ∃ n acc xs B', Ok K l (fun a => Z a ∨ a = A) n B' H' σ ρ ∧
    Fr Z B H B' H' ∧ H' A = some (.lst xs) ∧ IsAll K B' xs acc ∧
    I i n acc ∧ acc.length ≤ i
theorem lcx_turn {A : Addr} {I : Nat → Nat → List D → Prop} {i j : Nat}
    {x : V} {H' : Hp} {P : D → Prop} (hz : ¬ Z A) (hj : ρ[j]? = some none)
    (w : LcX K l Z ρ σ B H A I i H')
    (hx : ∀ B', Same B B' → ∃ d, Is K B' x d ∧ P d) (hi : i < 100000)
    (he : ∀ d n acc, P d → I i n acc →
      TvC K l tt (ρ.set j (some (.dat d))) n fun n1 b =>
        if b = true then EvC K l te (ρ.set j (some (.dat d))) n1 fun n2 y =>
          I (i + 1) n2 (acc ++ [y]) else I (i + 1) n1 acc) :
    gName j x (wipe σ [j]) H' fun σ2 H2 => wipe σ2 [j] = wipe σ [j] ∧
      tt σ2 H2 fun b H3 => if b = true then te σ2 H3 fun y H4 =>
        ∃ acc, H4 A = some (.lst acc) ∧ acc.length < sizeLine ∧
          LcX K l Z ρ σ B H A I (i + 1) (upd H4 A (.lst (acc ++ [y])))
      else LcX K l Z ρ σ B H A I (i + 1) H3 := by
  obtain ⟨n, acc, xs, B', ok, fr, hA, is, hI, hl⟩ := w
  obtain ⟨d, hd, hP⟩ := hx B' fr.sub
  have e1 : (wipe σ [j]).set j (some x) = σ.set j (some x) := by
    show (σ.set j none).set j (some x) = _
    rw [List.set_set]
  unfold gName
  rw [e1]
  refine ⟨?_, ?_⟩
  · show (σ.set j (some x)).set j none = σ.set j none
    rw [List.set_set]
  · refine he d n acc hP hI _ B' H' _ _ (ok.set hd)
      fun b n1 B1 H1 o1 f1 g1 => ?_
    have hA1 : H1 A = some (.lst xs) := (f1.kept A (.inr rfl)).trans hA
    cases b with
    | false =>
      rw [if_neg Bool.false_ne_true] at g1 ⊢
      exact ⟨n1, acc, xs, B1, o1.unset hj, fr.trans (f1.weak fun z q => .inl q),
        hA1, is.mono f1.sub, g1, by omega⟩
    | true =>
      rw [if_pos rfl] at g1 ⊢
      refine g1 _ B1 H1 _ _ o1 fun v y n2 B2 H2 o2 f2 i2 g2 => ?_
      have hA2 : H2 A = some (.lst xs) := (f2.kept A (.inr rfl)).trans hA1
      refine ⟨xs, hA2, ?_, n2, acc ++ [y], xs ++ [v], B2,
        (o2.unset hj).write (.inr rfl), ?_, upd_same,
        ((is.mono f1.sub).mono f2.sub).append (.cons i2 .nil), g2,
        by simp; omega⟩
      · rw [is.length]
        exact Nat.lt_of_le_of_lt hl (Nat.lt_of_lt_of_le hi (by decide))
      · refine ⟨(fr.sub.trans f1.sub).trans f2.sub, fun z hz' => ?_⟩
        rw [upd_ne (fun (e : z = A) => hz (e ▸ hz'))]
        exact ((f2.kept z (.inl hz')).trans (f1.kept z (.inl hz'))).trans
          (fr.kept z hz')
theorem lcx_end {A : Addr} {I : Nat → Nat → List D → Prop} {i : Nat}
    {H' : Hp} {Q : VK} (hz : ¬ Z A) (w : LcX K l Z ρ σ B H A I i H')
    (q : ∀ n acc, I i n acc → Φ n (.lst acc))
    (k : ∀ v d m' B2 H2, Ok K l Z m' B2 H2 σ ρ → Fr Z B H B2 H2 →
      Is K B2 v d → Φ m' d → Q v H2) : Q (.ref A) H' := by
  obtain ⟨n, acc, xs, B', ok, fr, hA, is, hI, hl⟩ := w
  have z2 := (ok.zs A (.inr rfl)).2.1
  exact k _ _ n _ _ (ok.thaw hA hz) ⟨fr.sub.trans (same_new z2), fr.kept⟩
    (.lst upd_same (is.mono (same_new z2))) (q n acc hI)
theorem lcx_start {A : Addr} {I : Nat → Nat → List D → Prop}
    (ok : Ok K l Z m B H σ ρ) (hA : H A = none) (h0 : I 0 m []) :
    LcX K l Z ρ σ B H A I 0 (upd H A (.lst [])) := by
  refine ⟨m, [], [], B, ok.aside hA, ⟨Same.refl B, fun z hz => ?_⟩,
    upd_same, .nil, h0, Nat.le_refl _⟩
  exact upd_ne fun e => (ok.zs z hz).1 (e ▸ hA)
/-- [e for i in range(n) if t] -/
theorem e_lcRx {j : Nat} (hj : ρ[j]? = some none)
    (h : AvC K l tA ρ m fun m1 x => ∃ z : Int, x = [.int z] ∧
      ∃ (c : Nat) (I : Nat → Nat → List D → Prop), z = c ∧ c ≤ 50000 ∧
      I 0 m1 [] ∧
      (∀ (i n : Nat) acc, i < c → I i n acc →
        TvC K l tt (ρ.set j (some (.dat (.int i)))) n fun n1 b =>
          if b = true then EvC K l te (ρ.set j (some (.dat (.int i)))) n1
            fun n2 y => I (i + 1) n2 (acc ++ [y]) else I (i + 1) n1 acc) ∧
      ∀ n acc, I c n acc → Φ n (.lst acc)) :
    EvC K l (tLc (iRng1 tA) (gName j) tt te [j]) ρ m Φ := by
  intro Z B H σ Q ok k
  refine h Z B H σ _ ok fun vs x m1 B1 H1 o1 f1 i1 g1 => ?_
  obtain ⟨z, rfl, c, I, rfl, hc, h0, hs, hd⟩ := g1
  obtain ⟨v, rfl, i2⟩ := isAll1 i1
  cases i2
  refine ⟨(c : Int), rfl, by omega, by omega, fun A hA => ?_⟩
  have hz : ¬ Z A := fun z => (o1.zs A z).1 hA
  refine lc_range (lo := 0) (n := (c : Int).toNat)
    (LcX K l Z ρ σ B1 H1 A I)
    (lcx_start o1 hA h0) (fun i H' hi w => ?_) fun H' w => ?_
  · rw [Int.toNat_natCast] at hi
    have e0 : (0 : Int) + (i : Int) = (i : Int) := Int.zero_add _
    rw [e0]
    exact lcx_turn (P := fun d => d = .int i) hz hj w
      (fun B' sb => ⟨_, .int _, rfl⟩) (by omega)
      fun d n acc e => by subst e; exact hs i n acc hi
  · rw [Int.toNat_natCast] at w
    exact lcx_end hz w hd fun v d m' B2 H2 o2 f2 i2 g2 =>
      k v d m' B2 H2 o2 (f1.trans f2) i2 g2
/-- the same, told by a test and a function of the number -/
theorem e_lcRxf {j : Nat} (hj : ρ[j]? = some none)
    (h : AvC K l tA ρ m fun m1 x => ∃ z : Int, x = [.int z] ∧
      ∃ (c : Nat) (p : Nat → Bool) (f : Nat → D), z = c ∧ c ≤ 50000 ∧
      (∀ i : Nat, i < c →
        TvC K l tt (ρ.set j (some (.dat (.int i)))) m1 fun n1 b => n1 = m1 ∧
          b = p i) ∧
      (∀ i : Nat, i < c → EvC K l te (ρ.set j (some (.dat (.int i)))) m1
        fun n2 y => n2 = m1 ∧ y = f i) ∧
      Φ m1 (.lst (((List.range c).filter p).map f))) :
    EvC K l (tLc (iRng1 tA) (gName j) tt te [j]) ρ m Φ := by
  refine e_lcRx hj (a_imp h fun m1 x q => ?_)
  obtain ⟨z, rfl, c, p, f, rfl, hc, ht, hb, hq⟩ := q
  refine ⟨_, rfl, c, fun i n acc => n = m1 ∧
    acc = ((List.range i).filter p).map f, rfl, hc, ⟨rfl, rfl⟩, ?_, ?_⟩
  · intro i n acc hi hI
    obtain ⟨rfl, rfl⟩ := hI
    refine t_imp (ht i hi) fun n1 b e => ?_
    obtain ⟨rfl, rfl⟩ := e
    cases e : p i with
    | true =>
      rw [if_pos rfl]
      refine e_imp (hb i hi) fun n2 y e2 => ?_
      obtain ⟨rfl, rfl⟩ := e2
      refine ⟨rfl, ?_⟩
      rw [List.range_succ, List.filter_append, List.map_append,
        List.filter_cons, e]
      rfl
    | false =>
      rw [if_neg Bool.false_ne_true]
      refine ⟨rfl, ?_⟩
      rw [List.range_succ, List.filter_append, List.map_append,
        List.filter_cons, e]
      simp
  · intro n acc hI
    obtain ⟨rfl, rfl⟩ := hI
    exact hq
/-- x = [..] * n that will be written -/
theorem s_repOwn {i : Nat} (h : EvC K l ta ρ m fun m1 x => EvC K l te ρ m1
      fun m2 y => ∃ xs, x = .lst xs ∧ ∃ z, y = .int z ∧ ∃ n : Nat, z = n ∧
        n ≤ 1000 ∧ xs.length ≤ 100 ∧
        Nx m2 (ρ.set i (some (.own (List.replicate n xs).flatten)))) :
    SvC K l (tAsg (tOp rRep ta te) (gName i)) ρ m Nx Rt := by
  intro Z B H σ W ok k _
  refine h Z B H σ _ ok fun v1 d1 m1 B1 H1 o1 f1 i1 g1 => ?_
  refine g1 Z B1 H1 σ _ o1 fun v2 d2 m2 B2 H2 o2 f2 i2 g2 => ?_
  obtain ⟨xs, rfl, z, rfl, n, rfl, hn, hl, q⟩ := g2
  have i1' := i1.mono f2.sub
  cases i2
  cases i1' with
  | @lst a vs _ ha isa =>
    refine ⟨a, n, vs, rfl, rfl, o2.sub _ _ ha, by omega, by omega, ?_,
      fun p hp => ?_⟩
    · rw [isa.length, Int.toNat_natCast, sizeLine_eq]
      have : xs.length * n ≤ 100 * 1000 := Nat.mul_le_mul hl hn
      omega
    · rw [Int.toNat_natCast]
      have hz : ¬ Z p := fun z => (o2.zs p z).1 hp
      refine k _ _ m2 B2 _ ((o2.aside
        (o := .lst (List.replicate n vs).flatten) hp).setOwn
        hz upd_same (isa.rep n)) ((f1.trans f2).trans
        ⟨Same.refl B2, fun z hz' => upd_ne fun e => hz (e ▸ hz')⟩) q
theorem IsAll.erase {vs : List V} {ds : List D} (h : IsAll K B vs ds) :
    ∀ n : Nat, IsAll K B (vs.eraseIdx n) (ds.eraseIdx n) := by
  intro n
  induction vs generalizing ds n with
  | nil => cases h; exact .nil
  | cons x xs ih =>
    cases h with
    | cons h1 h2 =>
      cases n with
      | zero => exact h2
      | succ n => exact .cons h1 (ih h2 n)
theorem s_parOwn2 {i j : Nat} (hij : i ≠ j)
    (h : EvC K l te ρ m fun m1 x => ∃ es, x.items = some es ∧
      Nx m1 ((ρ.set i (some (.own es))).set j (some (.own [])))) :
    SvC K l (tPar i j (tCons (tCB (rListQ K) (tCons te tNil))
      (tCons (tLst tNil) tNil))) ρ m Nx Rt := by
  intro Z B H σ W ok kk _
  refine h Z B H σ _ ok fun v d m1 B1 H1 o1 f1 i1 g1 => ?_
  obtain ⟨es, he, q⟩ := g1
  have : ∃ a us, v = .ref a ∧ (SqL K H1 a us ∨ SqT K H1 a us) ∧
      IsAll K B1 us es := by
    cases i1 with
    | lst h r => cases he; exact ⟨_, _, rfl, .inl (SqL.of (o1.sub _ _ h)), r⟩
    | tup h r _ => cases he; exact ⟨_, _, rfl, .inr (sameT o1.sub h), r⟩
    | _ => cases he
  obtain ⟨a, us, rfl, hs, r⟩ := this
  refine ⟨a, us, rfl, hs, fun p hp => ⟨Nat.zero_le _, fun p2 hp2 => ?_⟩⟩
  have hz : ¬ Z p := fun z => (o1.zs p z).1 hp
  have oA := o1.aside (o := .lst us) hp
  have hz2 : ¬ (Z p2 ∨ p2 = p) := fun z => (oA.zs p2 z).1 hp2
  have oB := oA.aside (o := .lst []) hp2
  have np : p ≠ p2 := fun e => hz2 (.inr e.symm)
  have h1 : upd (upd H1 p (.lst us)) p2 (.lst []) p = some (.lst us) := by
    rw [upd_ne np, upd_same]
  have oC := oB.setOwn (i := j) (ds := []) hz2 upd_same .nil
  have oD := oC.setOwn (i := i) (ds := es) hz h1 r
  rw [List.set_comm _ _ hij.symm, List.set_comm _ _ hij.symm (l := ρ)] at oD
  refine ⟨.ref p, .ref p2, rfl, kk _ _ m1 B1 _ oD ?_ q⟩
  refine f1.trans ⟨Same.refl B1, fun z hz' => ?_⟩
  rw [upd_ne (fun (e : z = p2) => hz2 (.inl (e ▸ hz'))),
    upd_ne (fun (e : z = p) => hz (e ▸ hz'))]
/-- t[a:b] of a list -/
theorem e_slL {tl th : TO}
    (h : EvC K l te ρ m fun m1 x => OvC K l tl ρ m1 fun m2 lo =>
      OvC K l th ρ m2 fun m3 hi => ∃ ds, x = .lst ds ∧
        Φ m3 (.lst (cutD ds lo hi))) :
    EvC K l (tSl (rSlL K) te tl th) ρ m Φ := by
  intro Z B H σ Q ok k
  refine h Z B H σ _ ok fun v x m1 B1 H1 o1 f1 i1 g1 => ?_
  refine g1 Z B1 H1 σ _ o1 fun lo m2 B2 H2 o2 f2 g2 => ?_
  refine g2 Z B2 H2 σ _ o2 fun hi m3 B3 H3 o3 f3 g3 => ?_
  obtain ⟨ds, rfl, q⟩ := g3
  have i3 := i1.mono (f2.trans f3).sub
  cases i3 with
  | @lst a us _ h r =>
    refine ⟨a, us, rfl, SqL.of (o3.sub _ _ h), fun p hp => ?_⟩
    obtain ⟨o4, f4⟩ := o3.new (o := .lst (cutV us lo hi)) hp
    exact k _ _ m3 _ _ o4 ((f1.trans (f2.trans f3)).trans f4)
      (.lst upd_same ((r.mono f4.sub).cut lo hi)) q
/-- own != [] -/
theorem t_ownNe {i kk ww : Nat} {ds : List D}
    (hi : ρ[i]? = some (some (.own ds)))
    (hd : Num kk ww (.lst ds)) (hkk : kk ≤ 64) (q : Θ m (!ds.isEmpty)) :
    TvC K l (tTest (tOp (rNeD K) (tVar i) (tLst tNil))) ρ m Θ := by
  intro Z B H σ Q ok k
  obtain ⟨v, e1, a, xs, rfl, q1, q2, q3, q4, q5⟩ := ok.sl i _ hi
  refine ⟨_, e1, Nat.zero_le _, fun p hp => ?_⟩
  have hap : a ≠ p := fun e => by rw [e, hp] at q1; cases q1
  have q1' : upd H p (.lst []) a = some (.lst xs) := by rw [upd_ne hap]; exact q1
  -- both are lists of the heap
  have fz : IsAll K (upd (upd B a (.lst xs)) p (.lst [])) xs ds :=
    q5.mono (fun b x e => by
      have n1 : b ≠ a := fun z => by rw [z, q2] at e; cases e
      have n2 : b ≠ p := fun z => by rw [z, ok.same0 hp] at e; cases e
      rw [upd_ne n2, upd_ne n1]; exact e)
  have sb : Same (upd (upd B a (.lst xs)) p (.lst [])) (upd H p (.lst [])) := by
    intro b x e
    by_cases n2 : b = p
    · subst n2; rw [upd_same] at e ⊢; exact e
    · rw [upd_ne n2] at e ⊢
      by_cases n1 : b = a
      · subst n1; rw [upd_same] at e; cases e; exact q1
      · rw [upd_ne n1] at e; exact ok.sub b x e
  have i1 : Is K (upd (upd B a (.lst xs)) p (.lst [])) (.ref a) (.lst ds) :=
    .lst (by rw [upd_ne hap, upd_same]) fz
  have i2 : Is K (upd (upd B a (.lst xs)) p (.lst [])) (.ref p) (.lst []) :=
    .lst upd_same .nil
  have n0 : Num 1 200000 (.lst []) :=
    (Num.lst (k := 0) (w := 1) (xs := []) fun x hx => by simp at hx).up
      (by omega) (by simp)
  have ev : (!PyData.eqv (D.lst ds).py (D.lst []).py) = !ds.isEmpty := by
    cases ds with
    | nil => rw [n0.same]; rfl
    | cons x xs => rw [hd.other n0 (by simp)]; rfl
  obtain ⟨o2, f2⟩ := ok.junk (o := .lst []) hp
  refine ⟨_, _, i1.dp sb (hd.eqs hkk).plain,
    i2.dp sb (n0.eqs (by omega)).plain, (hd.eqs hkk).shaped,
    (n0.eqs (by omega)).shaped, _, rfl, ?_⟩
  rw [ev]
  exact k _ m B _ o2 f2 q
/-- len(own) -/
theorem e_lenOwn {i : Nat} {ds : List D} (hi : ρ[i]? = some (some (.own ds)))
    (q : Φ m (.int ds.length)) :
    EvC K l (tCB (rLenQ K) (tCons (tVar i) tNil)) ρ m Φ := by
  intro Z B H σ Q ok k
  obtain ⟨v, e1, a, xs, rfl, q1, q2, q3, q4, q5⟩ := ok.sl i _ hi
  refine ⟨_, e1, a, xs, rfl, .inl (SqL.of q1), ?_⟩
  rw [q5.length]
  exact k _ _ m B H ok Fr.refl (.int _) q
/-- x.append(y.pop(e)) of two own lists -/
theorem s_popApp {i j : Nat} {ds es : List D}
    (hi : ρ[i]? = some (some (.own ds))) (hj : ρ[j]? = some (some (.own es)))
    (hij : i ≠ j) (hl : es.length < 100000)
    (h : EvC K l te ρ m fun m1 d => ∃ z, d = .int z ∧ ∃ k : Nat, z = k ∧
      k < 1000000 ∧ ∃ y, ds[k]? = some y ∧
      Nx m1 ((ρ.set i (some (.own (ds.eraseIdx k)))).set j
        (some (.own (es ++ [y]))))) :
    SvC K l (tDrop (tBM K "list" rAppend (tVar j) (tCons (tBM K "list"
      rPopAt (tVar i) (tCons te tNil)) tNil))) ρ m Nx Rt := by
  intro Z B H σ W ok k _
  obtain ⟨v, e1, a, xs, rfl, q1, q2, q3, q4, q5⟩ := ok.sl j _ hj
  refine ⟨_, e1, .inl ⟨rfl, _, SqL.of q1⟩, ?_⟩
  obtain ⟨v2, e2, b, ys, rfl, p1, p2, p3, p4, p5⟩ := ok.sl i _ hi
  refine ⟨_, e2, .inl ⟨rfl, _, SqL.of p1⟩, ?_⟩
  refine h Z B H σ _ ok fun v d m1 B1 H1 o1 f1 i1 g1 => ?_
  obtain ⟨z, rfl, c, rfl, hc, y, hy, q⟩ := g1
  cases i1
  obtain ⟨v', e2', b', ys', hv, w1, w2, w3, w4, w5⟩ := o1.sl i _ hi
  subst hv
  rw [e2] at e2'
  cases e2'
  obtain ⟨yv, hyv, iy⟩ := w5.got hy
  have hlt : c < ys'.length := (List.getElem?_eq_some_iff.mp hyv).1
  refine ⟨b, ys', c, c, yv, rfl, rfl, w1, by omega, by omega, ?_, hyv, ?_⟩
  · unfold seqIndex?
    simp only [Int.toNat_natCast]
    have e0 : (if (c : Int) < 0 then (c : Int) + (ys'.length : Int) else (c : Int)) = c := if_neg (by omega)
    simp [e0, hlt]
  · obtain ⟨o2, f2⟩ := o1.grow hi e2 (w5.erase c)
    have hj2 : (ρ.set i (some (.own (ds.eraseIdx c))))[j]? =
        some (some (.own es)) := by
      rw [List.getElem?_set_ne hij]; exact hj
    obtain ⟨v3, e3, a', xs', hv3, x1, x2, x3, x4, x5⟩ := o2.sl j _ hj2
    subst hv3
    rw [e1] at e3
    cases e3
    refine ⟨a, xs', yv, rfl, rfl, x1, ?_, ?_⟩
    · rw [x5.length]
      exact Nat.lt_of_lt_of_le hl (by decide)
    · obtain ⟨o3, f3⟩ := o2.grow hj2 e1 (x5.append (.cons iy .nil))
      exact k _ _ m1 B1 _ o3 ((f1.trans f2).trans f3) q
def SpF (K : PySem.W.Frag) (pre : Nat → List D → Prop)
    (Ψ : List D → Nat → Nat → List D → Prop) : Sp :=
  fun vs H Q _ => ∃ a ws B ds m, vs = .ref a :: ws ∧ SameB B H ∧
    Hand H a m ∧ B a = none ∧ IsAll K B ws ds ∧ pre m ds ∧
    ∀ p xs es m' B2 H2, Hand H2 a m' → Same B B2 → SameB B2 H2 →
      (∀ b o, b ≠ a → NTab b → H b = some o → H2 b = some o) →
      (∀ b, H b ≠ none → B b = none → B2 b = none) →
      H p = none → B2 p = none → p ≠ a → H2 p = some (.lst xs) →
      IsAll K B2 xs es → Ψ ds m m' es → Q (.ref p) H2
theorem body_F {pre : Nat → List D → Prop}
    {Ψ : List D → Nat → Nat → List D → Prop} {vs : List V}
    {Q : VK} {E : XK} {N : List Str} {j : Nat} (h : SpF K pre Ψ vs H Q E)
    (hb : ∀ a ds m, pre m ds → vs.length = ds.length + 1 →
      SvC K (some a) ts (some .hand :: (datR ds ++
        List.replicate (N.length - (ds.length + 1)) none))
        m (fun m' ρ' => ∃ es, ρ'[j]? = some (some (.own es)) ∧ Ψ ds m m' es)
        fun _ _ => False) :
    tSeq ts (tRet (tVar j)) { nx := fun _ H' => Q .non H', rt := Q }
      (start N vs) H := by
  obtain ⟨a, ws, B, ds, m, rfl, sb, hh, hB, is, hp, k⟩ := h
  have hl := is.length
  have ok : Ok K (some a) (fun b => H b ≠ none ∧ B b = none ∧ b ≠ a ∧ NTab b) m B H
      (start N (.ref a :: ws)) (some .hand :: (datR ds ++
        List.replicate (N.length - (ds.length + 1)) none)) := by
    refine ⟨⟨sb.1, fun b e => ?_, fun z h => ⟨h.1, h.2.1, fun e => ?_, h.2.2.2⟩, sb.2⟩,
      ?_, fun i s e => ?_, fun i j ds1 es b n po p2 e1 => ?_⟩
    · cases e
      exact ⟨hh, hB⟩
    · cases e
      exact h.2.2.1 rfl
    · unfold L2.start datR
      simp [hl]
    · cases i with
      | zero =>
        cases e
        exact ⟨.ref a, rfl, a, rfl, rfl⟩
      | succ i =>
        rw [List.getElem?_cons_succ] at e
        rcases Nat.lt_or_ge i ds.length with hi | hi
        · rw [List.getElem?_append_left (by unfold datR; simpa using hi)] at e
          obtain ⟨v, e2, q⟩ := isAll_get (l := some a)
            (Z := fun b => H b ≠ none ∧ B b = none ∧ b ≠ a ∧ NTab b) (H := H) is e
          refine ⟨v, ?_, q⟩
          unfold L2.start
          rw [List.map_cons, List.cons_append, List.getElem?_cons_succ,
            List.getElem?_append_left (by simpa [hl] using hi)]
          exact e2
        · rw [List.getElem?_append_right (by unfold datR; simpa using hi)] at e
          rw [List.getElem?_replicate] at e
          split at e <;> cases e
    · cases i with
      | zero => cases e1; cases po
      | succ i =>
        rw [List.getElem?_cons_succ] at e1
        rcases Nat.lt_or_ge i ds.length with hi | hi
        · rw [List.getElem?_append_left (by unfold datR; simpa using hi)] at e1
          unfold datR at e1
          rw [List.getElem?_map] at e1
          cases q : ds[i]? with
          | none => rw [q] at e1; cases e1
          | some d => rw [q] at e1; cases e1; cases po
        · rw [List.getElem?_append_right (by unfold datR; simpa using hi)] at e1
          rw [List.getElem?_replicate] at e1
          split at e1 <;> cases e1
  refine hb a ds m hp (by simp [hl]) _ B H _ _ ok
    (fun σ' ρ' m' B2 H2 o2 f2 g2 => ?_) fun v d m' B2 H2 o2 f2 i2 g2 => g2.elim
  obtain ⟨es, he, hΨ⟩ := g2
  obtain ⟨v, e1, p, xs, rfl, q1, q2, q3, q4, q5⟩ := o2.sl j _ he
  refine ⟨_, e1, ?_⟩
  have npa : p ≠ a := fun e => q4.1 (e ▸ rfl)
  have fresh : H p = none := by
    cases w : H p with
    | none => rfl
    | some o =>
      exfalso
      cases y : B p with
      | none => exact q3 ⟨by rw [w]; exact nofun, y, npa, q4.2⟩
      | some x => rw [f2.sub p x y] at q2; cases q2
  refine k p xs es m' B2 H2 (o2.hand a rfl).1 f2.sub ⟨o2.sub, o2.tab⟩
    (fun b o n nt e => ?_) (fun b h1 h2 => ?_) fresh q2 npa q1 q5 hΨ
  · cases q : B b with
    | none =>
      rw [f2.kept b ⟨by rw [e]; exact nofun, q, n, nt⟩]
      exact e
    | some x =>
      rw [sb.1 b x q] at e
      cases e
      exact o2.sub b _ (f2.sub b _ q)
  · by_cases n : b = a
    · subst n
      exact (o2.hand b rfl).2
    · exact (Classical.em (NTab b)).elim (fun nt => (o2.zs b ⟨h1, h2, n, nt⟩).2.1) fun nt => o2.tab.out nt
theorem body_F2 {pre : Nat → List D → Prop}
    {Ψ : List D → Nat → Nat → List D → Prop} {vs : List V} {t1 t2 : TS}
    {Q : VK} {E : XK} {N : List Str} {j : Nat} (h : SpF K pre Ψ vs H Q E)
    (hb : ∀ a ds m, pre m ds → vs.length = ds.length + 1 →
      SvC K (some a) (tSeq t1 t2) (some .hand :: (datR ds ++
        List.replicate (N.length - (ds.length + 1)) none))
        m (fun m' ρ' => ∃ es, ρ'[j]? = some (some (.own es)) ∧ Ψ ds m m' es)
        fun _ _ => False) :
    tSeq t1 (tSeq t2 (tRet (tVar j))) { nx := fun _ H' => Q .non H', rt := Q }
      (start N vs) H := body_F (ts := tSeq t1 t2) h hb
/-- an expression that is a new list -/
def EvF (K : PySem.W.Frag) (l : Option Addr) (te : TE) (ρ : Ro) (m : Nat)
    (Ψ : Nat → List D → Prop) : Prop :=
  ∀ Z B H σ (Q : VK), Ok K l Z m B H σ ρ →
    (∀ p xs es m' B2 H2, Ok K l (fun a => Z a ∨ a = p) m' B2 H2 σ ρ →
      Fr Z B H B2 H2 → ¬ Z p → H2 p = some (.lst xs) → IsAll K B2 xs es →
      Ψ m' es → Q (.ref p) H2) → te σ H Q
theorem f_call {pre : Nat → List D → Prop}
    {Ψ : List D → Nat → Nat → List D → Prop} {Ξ : Nat → List D → Prop}
    {E : XK} {i : Nat} (hi : ρ[i]? = some (some .hand))
    (h : AvC K l tA ρ m fun m1 ds => pre m1 ds ∧
      ∀ m2 es, Ψ ds m1 m2 es → Ξ m2 es) :
    EvF K l (tCall (SpF K pre Ψ) [] E (tCons (tVar i) tA)) ρ m Ξ := by
  intro Z B H σ Q ok k
  obtain ⟨v0, e0, a, ha, hv⟩ := ok.sl i _ hi
  subst hv
  refine ⟨_, e0, ?_⟩
  refine h Z B H σ _ ok fun vs ds m1 B1 H1 o1 f1 i1 g1 => ?_
  show SpF K pre Ψ (V.ref a :: vs ++ []) H1 Q E
  rw [List.append_nil]
  refine ⟨a, vs, B1, ds, m1, rfl, ⟨o1.sub, o1.tab⟩, (o1.hand a ha).1,
    (o1.hand a ha).2, i1, g1.1,
    fun p xs es m2 B2 H2 hh s1 s2 s3 s4 hp hp2 hpa e is hq => ?_⟩
  obtain ⟨o2, f2⟩ := o1.step (m' := m2) s1 s2
    (fun b e => by rw [ha] at e; cases e; exact hh)
    (fun b o n e => s3 b o (fun z => n.1 (z ▸ ha)) n.2 e) s4
  have hz : ¬ Z p := fun z => (o1.zs p z).1 hp
  refine k p xs es m2 B2 H2 ?_ (f1.trans f2) hz e is (g1.2 m2 es hq)
  have own_ne : ∀ (i : Nat) ds b, ρ[i]? = some (some (.own ds)) →
      σ[i]? = some (some (.ref b)) → b ≠ p := by
    intro i ds b e1 e2 z
    obtain ⟨v, e3, b', xs', hv, w1, _⟩ := o1.sl i _ e1
    subst hv
    rw [e2] at e3
    cases e3
    rw [z, hp] at w1
    cases w1
  refine ⟨⟨o2.sub, o2.hand, fun z q => ?_, o2.tab⟩, o2.len, fun i s e1 => ?_, o2.dis⟩
  · rcases q with q | rfl
    · exact o2.zs z q
    · refine ⟨by rw [e]; exact nofun, hp2, fun w => hpa ?_, o2.tab.ntLst e⟩
      rw [ha] at w
      exact (Option.some.inj w).symm
  · obtain ⟨v, e2, q⟩ := o2.sl i s e1
    refine ⟨v, e2, ?_⟩
    cases s with
    | dat d => exact q
    | hand => exact q
    | own ds =>
      obtain ⟨b, ys, rfl, w1, w2, w3, w4, w5⟩ := q
      refine ⟨b, ys, rfl, w1, w2, fun z => ?_, w4, w5⟩
      rcases z with z | z
      · exact w3 z
      · exact own_ne i ds b e1 e2 z
    | obj R =>
      obtain ⟨b, ys, rfl, w1, w2, w3, w4, w5⟩ := q
      refine ⟨b, ys, rfl, w1, w2, fun z => ?_, w4, w5⟩
      rcases z with z | z
      · exact w3 z
      · obtain ⟨v, e3, b', xs', hv, u1, _⟩ := o1.sl i _ e1
        subst hv
        rw [e2] at e3
        cases e3
        rw [z, hp] at u1
        cases u1
end
end Wt

namespace Wt
open PySem PySem.Spec PyProof.Rows L2
abbrev rDct (K : PySem.W.Frag) : List V → Hp → VK → Prop := fun xs H Q =>
  ∃ (a : Addr) (ps : List Addr) (kvs : List (Key × V)), xs = [.ref a] ∧
    SqL K H a (ps.map V.ref) ∧
    Paired (fun p kv => SqT K H p [kV kv.1, kv.2]) ps kvs ∧
    ∀ p, H p = none → Q (.ref p) (upd H p (.dK (mergeK [] kvs)))
theorem paired_of {α β : Type} {R : α → β → Prop} : ∀ {xs : List α}
    {ys : List β}, xs.length = ys.length →
    (∀ (c : Nat) x y, xs[c]? = some x → ys[c]? = some y → R x y) →
    Paired R xs ys
  | [], [], _, _ => .nil
  | x :: xs, y :: ys, h, r => .cons (r 0 x y rfl rfl)
    (paired_of (by simpa using h) fun c a b e1 e2 =>
      r (c + 1) a b (by simpa using e1) (by simpa using e2))
  | [], _ :: _, h, _ => by simp at h
  | _ :: _, [], h, _ => by simp at h
theorem merge_val : ∀ (more kvs : List (Key × V)) (k : Key),
    (∃ v, (k, v) ∈ more) → ∃ (c : Nat) (v : V), more[c]? = some (k, v) ∧
      valV (mergeK kvs more) k = some v
  | [], _, _, h => by obtain ⟨v, hv⟩ := h; simp at hv
  | (k0, v0) :: r, kvs, k, h => by
    show ∃ (c : Nat) (v : V), _ ∧ valV (mergeK (putK kvs k0 v0) r) k = some v
    by_cases hr : ∃ v, (k, v) ∈ r
    · obtain ⟨c, v, h1, h2⟩ := merge_val r (putK kvs k0 v0) k hr
      exact ⟨c + 1, v, by simpa using h1, h2⟩
    · have e : k = k0 := by
        obtain ⟨v, hv⟩ := h
        rcases List.mem_cons.mp hv with z | z
        · exact (Prod.mk.inj z).1
        · exact absurd ⟨v, z⟩ hr
      subst e
      refine ⟨0, v0, rfl, ?_⟩
      have keep : ∀ (r kvs : List (Key × V)), (¬ ∃ v, (k, v) ∈ r) →
          valV (mergeK kvs r) k = valV kvs k := by
        intro r
        induction r with
        | nil => intro kvs _; rfl
        | cons p r ih =>
          intro kvs hn
          show valV (mergeK (putK kvs p.1 p.2) r) k = _
          rw [ih _ (fun ⟨v, hv⟩ => hn ⟨v, List.mem_cons_of_mem _ hv⟩),
            valV_put, if_neg]
          intro e
          exact hn ⟨p.2, by rw [e]; exact List.mem_cons_self⟩
      rw [keep r _ hr, valV_put, if_pos rfl]
section
variable {K : PySem.W.Frag} {l : Option Addr} {ρ : Ro} {m : Nat}
variable {Nx : Nat → Ro → Prop} {Rt : Nat → D → Prop}
variable {Z : Addr → Prop} {B H : Hp} {σ : L2.St}
theorem ints_of : ∀ {xs : List V} {L : List Int},
    IsAll K B xs (L.map D.int) → xs = L.map V.int
  | _, [], h => by cases h; rfl
  | _, n :: L, h => by
    cases h with
    | cons h r => cases h; rw [ints_of r]; rfl
theorem isAll_ints (L : List Int) : IsAll K B (L.map V.int) (L.map D.int) := by
  induction L with
  | nil => exact .nil
  | cons n L ih => exact .cons (.int n) ih
/-- what was popped, place by place -/
def PopR (hs : List Int) (pos : Int → List Int) (L : List Int) : Prop :=
  ∃ perm : Int → List Int, (∀ h ∈ hs, (perm h).Perm (pos h)) ∧
    L.length = hs.length ∧ ∀ (i : Nat) h, hs[i]? = some h →
      L[i]? = (perm h)[hs.count h - 1 - (hs.take i).count h]?
structure DW (K : PySem.W.Frag) (l : Option Addr) (Z : Addr → Prop) (ρ : Ro)
    (σ : L2.St) (B H : Hp) (A : Addr) (hs : List Int) (pos : Int → List Int)
    (i n : Nat) (B' H' : Hp) (ps qs : List Addr) (Ls : List (List Int)) :
    Prop where
  ok : Ok K l (fun a => Z a ∨ a = A ∨ a ∈ ps ∨ a ∈ qs) n B' H' σ ρ
  fr : Fr Z B H B' H'
  hA : H' A = some (.lst (ps.map V.ref))
  l1 : ps.length = i
  l2 : qs.length = i
  l3 : Ls.length = i
  tup : ∀ (c : Nat) p h q, ps[c]? = some p → hs[c]? = some h →
    qs[c]? = some q → ∃ o, H' p = some (.frz o (.tup [.int h, .ref q]))
  lst : ∀ (c : Nat) q L, qs[c]? = some q → Ls[c]? = some L →
    H' q = some (.lst (L.map V.int))
  nd : qs.Nodup
  nA : A ∉ ps ∧ A ∉ qs
  nz : ∀ q ∈ qs, ¬ Z q
  perm : ∀ (c : Nat) h L, hs[c]? = some h → Ls[c]? = some L → L.Perm (pos h)
theorem get_snoc2 {α : Type} {xs : List α} {y z : α} {c : Nat}
    (h : (xs ++ [y])[c]? = some z) :
    xs[c]? = some z ∨ c = xs.length ∧ z = y := by
  by_cases hc : c < xs.length
  · rw [List.getElem?_append_left hc] at h
    exact .inl h
  · have hc2 : c = xs.length := by
      have := (List.getElem?_eq_some_iff.mp h).1
      simp at this
      omega
    subst hc2
    rw [List.getElem?_append_right (Nat.le_refl _)] at h
    simp at h
    exact .inr ⟨rfl, h.symm⟩
theorem lt_get {α : Type} {xs : List α} {z : α} {c : Nat}
    (h : xs[c]? = some z) : c < xs.length := (List.getElem?_eq_some_iff.mp h).1
theorem dw_turn {A : Addr} {hs : List Int} {pos : Int → List Int}
    {i n k h : Nat} {B' H' : Hp} {ps qs : List Addr} {Ls : List (List Int)}
    {tM : TE} {hue : Int} {R : Hp → Prop} (hz : ¬ Z A) (hh : ρ[h]? = some none)
    (w : DW K l Z ρ σ B H A hs pos i n B' H' ps qs Ls) (hi : hs[i]? = some hue)
    (hi2 : i < 100000)
    (hF : EvF K l tM (ρ.set h (some (.dat (.int hue)))) n fun n2 es =>
      n2 ≤ n + k ∧ ∃ L : List Int, es = L.map D.int ∧ L.Perm (pos hue))
    (hR : ∀ n2 B2 H2 ps2 qs2 Ls2, n2 ≤ n + k →
      DW K l Z ρ σ B H A hs pos (i + 1) n2 B2 H2 ps2 qs2 Ls2 → R H2) :
    gName h (.int hue) (wipe σ [h]) H' fun σ2 H2 => wipe σ2 [h] = wipe σ [h] ∧
      tYes σ2 H2 fun b H3 => if b = true then
        tTupC (tCons (tVar h) (tCons tM tNil)) σ2 H3 fun y H4 =>
          ∃ acc, H4 A = some (.lst acc) ∧ acc.length < sizeLine ∧
            R (upd H4 A (.lst (acc ++ [y])))
      else R H3 := by
  have e1 : (wipe σ [h]).set h (some (.int hue)) = σ.set h (some (.int hue)) := by
    show (σ.set h none).set h _ = _
    rw [List.set_set]
  unfold gName tYes
  dsimp only
  rw [e1, if_pos rfl]
  have hlt : h < σ.length := by
    rw [w.ok.len]; exact lt_get hh
  refine ⟨?_, ?_⟩
  · show (σ.set h (some (.int hue))).set h none = σ.set h none
    rw [List.set_set]
  refine ⟨.int hue, List.getElem?_set_self hlt, ?_⟩
  refine hF _ B' H' _ _ (w.ok.set (.int hue))
    fun q xs es n2 B2 H2 o2 f2 hq eq2 is hΨ => ?_
  obtain ⟨hn2, L, rfl, hL⟩ := hΨ
  cases ints_of is
  refine ⟨by show 2 ≤ sizeLine; decide, fun T ob hT _ _ => ?_⟩
  have oT := o2.aside (o := .frz ob (.tup [.int hue, .ref q])) hT
  have nT : ∀ z, (Z z ∨ z = A ∨ z ∈ ps ∨ z ∈ qs) ∨ z = q → z ≠ T :=
    fun z hz e => (o2.zs z hz).1 (e ▸ hT)
  have kp : ∀ z, (Z z ∨ z = A ∨ z ∈ ps ∨ z ∈ qs) →
      upd H2 T (.frz ob (.tup [.int hue, .ref q])) z = H' z := fun z hz => by
    rw [upd_ne (nT z (.inl hz))]; exact f2.kept z hz
  have hqA : q ≠ A := fun e => hq (.inr (.inl e))
  have hqp : q ∉ ps := fun e => hq (.inr (.inr (.inl e)))
  have hqq : q ∉ qs := fun e => hq (.inr (.inr (.inr e)))
  have hTA : T ≠ A := fun e => nT A (.inl (.inr (.inl rfl))) e.symm
  refine ⟨ps.map V.ref, (kp A (.inr (.inl rfl))).trans w.hA, ?_, hR n2 B2 _
    (ps ++ [T]) (qs ++ [q]) (Ls ++ [L]) hn2 ?_⟩
  · rw [List.length_map, w.l1]
    exact Nat.lt_of_lt_of_le hi2 (by decide)
  have oW := (oT.write (p := A) (o := .lst ((ps ++ [T]).map V.ref))
    (.inl (.inl (.inr (.inl rfl))))).unset hh
  have up : ∀ z, z ≠ A → upd (upd H2 T (.frz ob (.tup [.int hue, .ref q]))) A
      (.lst ((ps ++ [T]).map V.ref)) z = upd H2 T (.frz ob (.tup [.int hue, .ref q])) z :=
    fun z hz => upd_ne hz
  rw [show ps.map V.ref ++ [V.ref T] = (ps ++ [T]).map V.ref by
    rw [List.map_append]; rfl]
  constructor
  · refine oW.less fun z hz => ?_
    rcases hz with hz | hz | hz | hz
    · exact .inl (.inl (.inl hz))
    · exact .inl (.inl (.inr (.inl hz)))
    · rcases List.mem_append.mp hz with hz | hz
      · exact .inl (.inl (.inr (.inr (.inl hz))))
      · exact .inr (List.mem_singleton.mp hz)
    · rcases List.mem_append.mp hz with hz | hz
      · exact .inl (.inl (.inr (.inr (.inr hz))))
      · exact .inl (.inr (List.mem_singleton.mp hz))
  · refine ⟨w.fr.sub.trans f2.sub, fun z hz' => ?_⟩
    rw [up z (fun e => hz (e ▸ hz')), kp z (.inl hz')]
    exact w.fr.kept z hz'
  · exact upd_same
  · simp [w.l1]
  · simp [w.l2]
  · simp [w.l3]
  · intro c p h' q' e1 e2 e3
    rcases get_snoc2 e1 with a1 | ⟨a1, rfl⟩
    · have hc : c < ps.length := lt_get a1
      have e3' : qs[c]? = some q' := by
        rw [List.getElem?_append_left (by rw [w.l2, ← w.l1]; exact hc)] at e3
        exact e3
      have hp := List.mem_of_getElem? a1
      rw [up p (fun e => w.nA.1 (e ▸ hp)), kp p (.inr (.inr (.inl hp)))]
      exact w.tup c p h' q' a1 e2 e3'
    · rw [w.l1] at a1
      subst a1
      rw [hi] at e2
      cases e2
      have e3' : q' = q := by
        rcases get_snoc2 e3 with a | ⟨_, a⟩
        · have := lt_get a
          rw [w.l2] at this
          omega
        · exact a
      subst e3'
      exact ⟨ob, by rw [up _ hTA, upd_same]⟩
  · intro c q' L' e1 e2
    rcases get_snoc2 e1 with a1 | ⟨a1, rfl⟩
    · have hc : c < qs.length := lt_get a1
      have e2' : Ls[c]? = some L' := by
        rw [List.getElem?_append_left (by rw [w.l3, ← w.l2]; exact hc)] at e2
        exact e2
      have hp := List.mem_of_getElem? a1
      rw [up q' (fun e => w.nA.2 (e ▸ hp)), kp q' (.inr (.inr (.inr hp)))]
      exact w.lst c q' L' a1 e2'
    · rw [w.l2] at a1
      subst a1
      have e2' : L' = L := by
        rcases get_snoc2 e2 with a | ⟨_, a⟩
        · have := lt_get a
          rw [w.l3] at this
          omega
        · exact a
      subst e2'
      rw [up _ hqA, upd_ne (nT _ (.inr rfl))]
      exact eq2
  · rw [List.nodup_append]
    refine ⟨w.nd, by simp, fun a ha b hb => ?_⟩
    rw [List.mem_singleton] at hb
    subst hb
    exact fun e => hqq (e ▸ ha)
  · refine ⟨fun e => ?_, fun e => ?_⟩
    · rcases List.mem_append.mp e with e | e
      · exact w.nA.1 e
      · exact hTA (List.mem_singleton.mp e).symm
    · rcases List.mem_append.mp e with e | e
      · exact w.nA.2 e
      · exact hqA (List.mem_singleton.mp e).symm
  · intro q' hq' z
    rcases List.mem_append.mp hq' with e | e
    · exact w.nz q' e z
    · rw [List.mem_singleton] at e
      subst e
      exact hq (.inl z)
  · intro c h' L' e1 e2
    rcases get_snoc2 e2 with a1 | ⟨a1, rfl⟩
    · exact w.perm c h' L' e1 a1
    · rw [w.l3] at a1
      subst a1
      rw [hi] at e1
      cases e1
      exact hL
theorem count_take {hs : List Int} {i : Nat} {h g : Int} (hi : hs[i]? = some h) :
    (hs.take (i + 1)).count g = (hs.take i).count g + if h = g then 1 else 0 := by
  rw [take_snoc' hi, List.count_append, List.count_singleton]
  by_cases e : h = g
  · simp [e]
  · simp [e]
theorem count_lt {hs : List Int} {i : Nat} {h : Int} (hi : hs[i]? = some h) :
    (hs.take i).count h < hs.count h := by
  have h1 := count_take (g := h) hi
  rw [if_pos rfl] at h1
  have h2 : (hs.take (i + 1)).count h ≤ hs.count h :=
    List.Sublist.count_le _ (List.take_sublist _ _)
  omega
theorem drop_last_take {α : Type} {xs : List α} {n : Nat} (h0 : 0 < n)
    (hn : n ≤ xs.length) : (xs.take n).dropLast = xs.take (n - 1) := by
  rw [List.dropLast_eq_take, List.take_take, List.length_take]
  congr 1
  omega
/-- the body of a def that draws an order of all that keeps a sort -/
theorem s_leads {h d k : Nat} {hs : List Int} {pos : Int → List Int} {tM : TE}
    (hh : ρ[h]? = some none) (hd : ρ[d]? = some none) (hhd : h ≠ d)
    (h1 : ρ[1]? = some (some (.dat (.tup (hs.map D.int)))))
    (hl : hs.length ≤ 1000) (hpos : ∀ g, (pos g).length = hs.count g)
    (hF : ∀ (i n : Nat) g, hs[i]? = some g → n ≤ m + k * i →
      EvF K l tM (ρ.set h (some (.dat (.int g)))) n fun n2 es =>
        n2 ≤ n + k ∧ ∃ L : List Int, es = L.map D.int ∧ L.Perm (pos g))
    (hq : ∀ n L, n ≤ m + k * hs.length → PopR hs pos L →
      Rt n (.tup (L.map D.int))) :
    SvC K l (tSeq (tAsg (tCB (rDct K) (tCons (tLc (iTup K (tVar 1)) (gName h)
        tYes (tTupC (tCons (tVar h) (tCons tM tNil))) [h]) tNil)) (gName d))
      (tRet (tCB (rTupC K) (tCons (tLc (iTup K (tVar 1)) (gName h) tYes
        (tBM0 K "list" rPop (tDGet (tVar d) (tVar h))) [h]) tNil))))
      ρ m Nx Rt := by
  intro Z B H σ W ok _ jr
  obtain ⟨v1, e1, z1⟩ := ok.sl 1 _ h1
  refine ⟨v1, e1, ?_⟩
  cases z1 with
  | @tup a us _ hT is =>
  have eus := ints_of is
  subst eus
  refine ⟨a, rfl, ⟨_, sameT ok.sub hT⟩, fun A hA => ?_⟩
  have hz : ¬ Z A := fun z => (ok.zs A z).1 hA
  refine lc_tup (xs := hs.map V.int) (fun i H' => ∃ n B' ps qs Ls,
    n ≤ m + k * i ∧ DW K l Z ρ σ B H A hs pos i n B' H' ps qs Ls)
    ⟨m, B, [], [], [], by omega, ?_⟩ (fun i H' _ w => ?_) (fun i x H' e w => ?_)
    fun H' w => ?_
  · refine ⟨?_, ?_, upd_same, rfl, rfl, rfl, ?_, ?_, .nil, ?_, ?_, ?_⟩
    · refine (ok.aside (o := .lst []) hA).less fun z hz => ?_
      rcases hz with hz | hz | hz | hz
      · exact .inl hz
      · exact .inr hz
      · simp at hz
      · simp at hz
    · exact ⟨Same.refl B, fun z hz' => upd_ne fun e => hz (e ▸ hz')⟩
    · intro c p h' q e; simp at e
    · intro c q L e; simp at e
    · simp
    · intro q hq; simp at hq
    · intro c h' L _ e; simp at e
  · obtain ⟨n, B', ps, qs, Ls, _, w⟩ := w
    exact sameT w.ok.sub (sameT w.fr.sub hT)
  · obtain ⟨n, B', ps, qs, Ls, hn, w⟩ := w
    rw [List.getElem?_map] at e
    cases eg : hs[i]? with
    | none => rw [eg] at e; cases e
    | some g =>
      rw [eg] at e
      cases e
      have hi := lt_get eg
      refine dw_turn (k := k) hz hh w eg (by omega) (hF i n g eg hn)
        fun n2 B2 H2 ps2 qs2 Ls2 h2 w2 => ⟨n2, B2, ps2, qs2, Ls2, ?_, w2⟩
      rw [Nat.mul_add, Nat.mul_one]
      omega
  · obtain ⟨n, B', ps, qs, Ls, hn, w⟩ := w
    rw [List.length_map] at hn w
    have l1 := w.l1
    have l2 := w.l2
    have l3 := w.l3
    refine ⟨A, ps, (hs.zip qs).map fun x => (Sum.inl x.1, V.ref x.2), rfl,
      SqL.of w.hA, paired_of (by simp; omega) (fun c p kv e2 e3 => ?_),
      fun Dd hDd => ?_⟩
    · have kvs_at := e3
      rw [List.getElem?_map] at kvs_at
      cases ez : (hs.zip qs)[c]? with
      | none => rw [ez] at kvs_at; cases kvs_at
      | some y =>
        rw [ez] at kvs_at
        cases kvs_at
        obtain ⟨y1, y2⟩ := List.getElem?_zip_eq_some.mp ez
        obtain ⟨o, ho⟩ := w.tup c p y.1 y.2 e2 y1 y2
        exact sqF ho
    -- the dict
    have look : ∀ g, ∃ x : Addr × List Int, g ∈ hs → ∃ c : Nat,
        hs[c]? = some g ∧ qs[c]? = some x.1 ∧ Ls[c]? = some x.2 ∧
        valV (mergeK [] ((hs.zip qs).map fun x => ((Sum.inl x.1 : Key), V.ref x.2)))
          (Sum.inl g) = some (.ref x.1) := by
      intro g
      by_cases hg : g ∈ hs
      · obtain ⟨c0, hc0⟩ := List.getElem?_of_mem hg
        have hc0l := lt_get hc0
        obtain ⟨q0, hq0⟩ : ∃ q, qs[c0]? = some q :=
          ⟨qs[c0]'(by omega), List.getElem?_eq_getElem _⟩
        obtain ⟨c, v, hv, hval⟩ := merge_val
          ((hs.zip qs).map fun x => ((Sum.inl x.1 : Key), V.ref x.2)) [] (Sum.inl g)
          ⟨.ref q0, List.mem_map.mpr ⟨(g, q0), List.mem_of_getElem? (i := c0)
            (List.getElem?_zip_eq_some.mpr ⟨hc0, hq0⟩), rfl⟩⟩
        rw [List.getElem?_map] at hv
        cases ez : (hs.zip qs)[c]? with
        | none => rw [ez] at hv; cases hv
        | some y =>
          rw [ez] at hv
          have e5 := Prod.mk.inj (Option.some.inj hv)
          obtain ⟨y1, y2⟩ := List.getElem?_zip_eq_some.mp ez
          have hcl := lt_get y2
          obtain ⟨L0, hL0⟩ : ∃ L, Ls[c]? = some L :=
            ⟨Ls[c]'(by omega), List.getElem?_eq_getElem _⟩
          refine ⟨(y.2, L0), fun _ => ⟨c, ?_, y2, hL0, ?_⟩⟩
          · rw [y1, Sum.inl.inj e5.1]
          · rw [hval, ← e5.2]
      · exact ⟨(0, []), fun z => absurd z hg⟩
    obtain ⟨f, hf⟩ := Classical.axiomOfChoice look
    generalize mergeK [] ((hs.zip qs).map fun x => ((Sum.inl x.1 : Key), V.ref x.2)) = KV at hf
    have qZ : ∀ g ∈ hs, (f g).1 ∈ qs := fun g hg => by
      obtain ⟨c, _, c2, _⟩ := hf g hg
      exact List.mem_of_getElem? c2
    have qinj : ∀ g ∈ hs, ∀ g' ∈ hs, g ≠ g' → (f g).1 ≠ (f g').1 := by
      intro g hg g' hg' n e
      obtain ⟨c, c1, c2, _⟩ := hf g hg
      obtain ⟨c', c1', c2', _⟩ := hf g' hg'
      have : c = c' := by
        have x1 := lt_get c2
        refine (List.getElem?_inj x1 w.nd).mp ?_
        rw [c2, c2', e]
      subst this
      rw [c1] at c1'
      exact n (Option.some.inj c1')
    have okA := w.ok.aside (o := .dK KV) hDd
    have ne : ∀ z, (Z z ∨ z = A ∨ z ∈ ps ∨ z ∈ qs) → z ≠ Dd :=
      fun z hz e => (w.ok.zs z hz).1 (e ▸ hDd)
    have h1a : (upd H' Dd (.dK KV)) Dd = some (.dK KV) := upd_same
    -- the second row
    have okB : Ok K l (fun a => Z a ∨ a = Dd ∨ a ∈ qs) n B'
        (upd H' Dd (.dK KV)) (σ.set d (some (.ref Dd))) ρ := by
      refine (okA.any hd).less fun z hz => ?_
      rcases hz with hz | hz | hz
      · exact .inl (.inl hz)
      · exact .inr hz
      · exact .inl (.inr (.inr (.inr hz)))
    have frB : Fr Z B H B' (upd H' Dd (.dK KV)) :=
      ⟨w.fr.sub, fun z hz' => by
        rw [upd_ne (ne z (.inl hz'))]; exact w.fr.kept z hz'⟩
    have qat : ∀ g ∈ hs, upd H' Dd (.dK KV) (f g).1 =
        some (.lst ((f g).2.map V.int)) ∧ (f g).2.Perm (pos g) := by
      intro g hg
      obtain ⟨c, c1, c2, c3, _⟩ := hf g hg
      refine ⟨?_, w.perm c g _ c1 c3⟩
      rw [upd_ne (ne _ (.inr (.inr (.inr (qZ g hg)))))]
      exact w.lst c _ _ c2 c3
    obtain ⟨v1', e1', z1'⟩ := okB.sl 1 _ h1
    refine ⟨v1', e1', ?_⟩
    generalize upd H' Dd (.dK KV) = H2 at *
    cases z1' with
    | @tup a2 us2 _ hT2 is2 =>
    have eus := ints_of is2
    subst eus
    refine ⟨a2, rfl, ⟨_, sameT okB.sub hT2⟩, fun A2 hA2 => ?_⟩
    have oC := okB.aside (o := .lst []) hA2
    have nA2 : ∀ z, (Z z ∨ z = Dd ∨ z ∈ qs) → z ≠ A2 :=
      fun z hz e => (okB.zs z hz).1 (e ▸ hA2)
    have hA2z : ¬ Z A2 := fun z => nA2 A2 (.inl z) rfl
    refine lc_tup (xs := hs.map V.int) (fun i H3 => ∃ (L : List Int) (B3 : Hp),
      Ok K l (fun a => (Z a ∨ a = Dd ∨ a ∈ qs) ∨ a = A2) n B3 H3
        (σ.set d (some (.ref Dd))) ρ ∧ Fr Z B H B3 H3 ∧ Same B' B3 ∧
      H3 Dd = some (.dK KV) ∧ H3 A2 = some (.lst (L.map V.int)) ∧ L.length = i ∧
      (∀ g ∈ hs, H3 (f g).1 = some (.lst (((f g).2.take
        (hs.count g - (hs.take i).count g)).map V.int))) ∧
      ∀ (c : Nat) g, c < i → hs[c]? = some g →
        L[c]? = (f g).2[hs.count g - 1 - (hs.take c).count g]?)
      ⟨[], B', oC, ?_, Same.refl _, ?_, upd_same, rfl, ?_, ?_⟩
      (fun i H3 _ w3 => ?_) (fun i x H3 e w3 => ?_) fun H3 w3 => ?_
    · exact ⟨frB.sub, fun z hz' => by
        rw [upd_ne (nA2 z (.inl hz'))]; exact frB.kept z hz'⟩
    · rw [upd_ne (nA2 Dd (.inr (.inl rfl)))]; exact h1a
    · intro g hg
      rw [upd_ne (nA2 _ (.inr (.inr (qZ g hg)))), (qat g hg).1]
      have : (f g).2.length = hs.count g := by
        rw [(qat g hg).2.length_eq, hpos]
      rw [List.take_zero, List.count_nil, Nat.sub_zero, ← this, List.take_length]
    · intro c g hc; omega
    · obtain ⟨L, B3, o3, _, sb, _⟩ := w3
      exact sameT o3.sub (sameT sb hT2)
    · obtain ⟨L, B3, o3, f3, sb, hD3, hA3, hL3, hq3, hc3⟩ := w3
      rw [List.getElem?_map] at e
      cases eg : hs[i]? with
      | none => rw [eg] at e; cases e
      | some g =>
      rw [eg] at e
      cases e
      have hg := List.mem_of_getElem? eg
      have hlt : h < (σ.set d (some (V.ref Dd))).length := by
        rw [List.length_set, ok.len]; exact lt_get hh
      have e5 : (wipe (σ.set d (some (V.ref Dd))) [h]).set h (some (.int g)) =
          (σ.set d (some (V.ref Dd))).set h (some (.int g)) := by
        show ((σ.set d (some (V.ref Dd))).set h none).set h _ = _
        rw [List.set_set]
      unfold gName tYes
      dsimp only
      rw [e5, if_pos rfl]
      refine ⟨?_, ?_⟩
      · show ((σ.set d (some (V.ref Dd))).set h (some (.int g))).set h none =
          (σ.set d (some (V.ref Dd))).set h none
        rw [List.set_set]
      have hdl : d < σ.length := by rw [ok.len]; exact lt_get hd
      refine ⟨.ref Dd, ?_, .int g, List.getElem?_set_self hlt, Dd,
        .ref (f g).1, rfl, ?_, ?_⟩
      · rw [List.getElem?_set_ne hhd, List.getElem?_set_self hdl]
      · obtain ⟨c, _, _, _, hv⟩ := hf g hg
        rw [← hv]
        exact DGet.k (k := Sum.inl g) hD3
      have hcnt := count_lt eg
      have hlen : (f g).2.length = hs.count g := by
        rw [(qat g hg).2.length_eq, hpos]
      have hx : ((f g).2.take (hs.count g - (hs.take i).count g)).length =
          hs.count g - (hs.take i).count g := by
        rw [List.length_take]; omega
      obtain ⟨y, hy⟩ : ∃ y, (f g).2[hs.count g - 1 - (hs.take i).count g]? =
          some y := ⟨(f g).2[hs.count g - 1 - (hs.take i).count g]'(by omega),
            List.getElem?_eq_getElem _⟩
      refine ⟨.inl ⟨rfl, _, SqL.of (hq3 g hg)⟩, (f g).1, _, .int y, rfl, rfl,
        hq3 g hg, ?_, ?_⟩
      · rw [List.length_map, hx, List.getElem?_map, List.getElem?_take_of_lt (by omega),
          show hs.count g - (hs.take i).count g - 1 =
            hs.count g - 1 - (hs.take i).count g by omega, hy]
        rfl
      have nqA : (f g).1 ≠ A2 := nA2 _ (.inr (.inr (qZ g hg)))
      have nqD : (f g).1 ≠ Dd := fun z => by
        have := hq3 g hg
        rw [z, hD3] at this
        cases this
      refine ⟨L.map V.int, ?_, ?_, L ++ [y], B3, ?_, ?_, sb, ?_, ?_, ?_, ?_, ?_⟩
      · rw [upd_ne (Ne.symm nqA)]; exact hA3
      · rw [List.length_map, hL3]
        have := lt_get eg
        rw [sizeLine_eq]
        omega
      · exact (o3.write (.inl (.inr (.inr (qZ g hg))))).write (.inr rfl)
      · refine ⟨f3.sub, fun z hz' => ?_⟩
        rw [upd_ne (nA2 z (.inl hz')), upd_ne]
        · exact f3.kept z hz'
        · intro z2
          exact w.nz _ (qZ g hg) (z2 ▸ hz')
      · rw [upd_ne (nA2 Dd (.inr (.inl rfl))), upd_ne (Ne.symm nqD)]
        exact hD3
      · rw [upd_same, List.map_append]; rfl
      · simp [hL3]
      · intro g' hg'
        rw [upd_ne (nA2 _ (.inr (.inr (qZ g' hg')))), count_take eg]
        by_cases eq : g = g'
        · subst eq
          rw [if_pos rfl, upd_same, ← List.map_dropLast,
            drop_last_take (by omega) (by omega)]
          rw [show hs.count g - (hs.take i).count g - 1 =
            hs.count g - ((hs.take i).count g + 1) by omega]
        · rw [if_neg eq, upd_ne (Ne.symm (qinj g hg g' hg' eq))]
          exact hq3 g' hg'
      · intro c g' hc hcg
        by_cases hci : c = i
        · subst hci
          rw [eg] at hcg
          cases hcg
          rw [List.getElem?_append_right (by omega), hL3, Nat.sub_self, hy]
          rfl
        · rw [List.getElem?_append_left (by omega)]
          exact hc3 c g' (by omega) hcg
    · obtain ⟨L, B3, o3, f3, sb, hD3, hA3, hL3, hq3, hc3⟩ := w3
      rw [List.length_map] at hL3 hc3
      refine ⟨A2, L.map V.int, rfl, .inl ⟨SqL.of hA3, fun p ob hp hd' _ => ?_⟩⟩
      obtain ⟨o4, f4⟩ := (o3.less (Z := Z) fun z hz => .inl (.inl hz)).new
        (o := .frz ob (.tup (L.map V.int))) hp
      refine jr _ _ n _ _ o4.toBs (f3.trans f4) (.newT upd_same hd'
        (isAll_ints L)) (hq n L hn ⟨fun g => (f g).2, fun g hg => (qat g hg).2,
          hL3, fun i g hi => hc3 i g (lt_get hi) hi⟩)
end
theorem pe_dgetR {X : Cx} {k : Nat} {o i : Expr} {td ty : TE} {pos : Pos}
    (hr : Room k X.A) (ho : PE X o td) (hi : PE X i ty) (hs : NoSl i) :
    PE X (.Subscript o i pos) (tDGet td ty) :=
  pe_dget (by have := hr.units; omega) ho hi hs
section
variable {X : Cx} {K : PySem.W.Frag} {o e : Expr} {es : List Expr} {to : TE}
variable {t : TA} {name : Str} {apos cpos : Pos} {T id : String}
variable {r : V → List V → Hp → VK → Prop}
theorem pe_bm0K (hK : X.K = K) (pa : PlainAttrs T) (slot : Slot T name id)
    (hty : typeOf (.builtin id) = pure (.type "method_descriptor"))
    (hm : MtR X id r) (ho : PE X o to)
    (hbase : attributeBase o name X.env (eval o X.env) = eval o X.env := by rfl)
    (hline : (apos.endLine == cpos.line) = true := by rfl) :
    PE X (.Call (.Attribute o name apos) [] [] cpos) (tBM0 K T r to) := by
  subst hK
  exact pe_bm0 pa slot hty hm ho hbase hline
end
section
variable {K : PySem.W.Frag} {l : Option Addr} {ρ : Ro} {m : Nat}
variable {Φ : Nat → D → Prop}
theorem eqs_int (i : Int) : Eqs (.int i) :=
  ⟨rfl, by
    unfold SeqAt.shaped
    rw [flat_lay (.int i) rfl, decide_eq_true (by simp [D.py, PyData.depth])]; rfl⟩
theorem eqv_int (i j : Int) : PyData.eqv (D.int i).py (D.int j).py =
    decide (i = j) := by
  rw [Bool.eq_iff_iff, eqv_iff _ _ rfl rfl, decide_eq_true_eq, D.int.injEq]
theorem v_eqDi {i j : Int} (q : Φ m (.bl (decide (i = j)))) :
    VvC K l ρ (fun vs H Q => ∃ x y, vs = [x, y] ∧ rEqD K x y H Q)
      [.int i, .int j] m Φ :=
  v_eqD (eqs_int i) (eqs_int j) (by rw [eqv_int]; exact q)
theorem v_neDi {i j : Int} (q : Φ m (.bl (!decide (i = j)))) :
    VvC K l ρ (fun vs H Q => ∃ x y, vs = [x, y] ∧ rNeD K x y H Q)
      [.int i, .int j] m Φ :=
  v_neD (eqs_int i) (eqs_int j) (by rw [eqv_int]; exact q)
end
end Wt

namespace Wt
open PySem PySem.Spec PyProof.Rows L2
section
variable {prog : Program} {w : World} {A : Around}
variable {E : Value → Shared → Prop} {s : Shared}
end
section
variable {X : Cx}
variable {K : PySem.W.Frag} {o e : Expr} {es : List Expr} {to : TE}
variable {t : TA} {name : Str} {apos cpos : Pos} {T id : String}
variable {r : V → List V → Hp → VK → Prop}
end
section
variable {K : PySem.W.Frag} {l : Option Addr} {ρ : Ro} {m : Nat}
variable {Φ : Nat → D → Prop} {ta te : TE} {tA : TA}
variable {Nx : Nat → Ro → Prop} {Rt : Nat → D → Prop}
end
end Wt

namespace Wt
open PySem PySem.Spec PyProof.Rows L2 PySem.Calls
structure ZSt (xs ys : Array Value) (z TI TO i1 i2 l1 l2 S : Addr) (i : Nat) (h : Heap) : Prop where
  ti : IsPair h TI (.ref i1) (.ref i2)
  a1 : h.IsListIter i1 l1 i
  a2 : h.IsListIter i2 l2 i
  b1 : h.IsList l1 xs
  b2 : h.IsList l2 ys
  z : (IsZip h z TI TO .none ∧ ∃ a b, IsPair h TO a b) ∨
    ∃ T f oT, IsZipHeld h z TI TO T f ∧ h.get? T = some oT ∧ T ≠ z ∧ T ≠ i1 ∧ T ≠ i2 ∧ T ≠ S
section
variable {prog : Program} {w : World} {A : Around} {E : Value → Shared → Prop} {s : Shared}
variable {z TI TO i1 i2 l1 l2 S : Addr} {xs ys : Array Value}
theorem ZSt.keep {h h' : Heap} {i : Nat} (t : ZSt xs ys z TI TO i1 i2 l1 l2 S i h)
    (k : ∀ b o, b ≠ S → h.get? b = some o → h'.get? b = some o)
    (n : z ≠ S ∧ TI ≠ S ∧ TO ≠ S ∧ i1 ≠ S ∧ i2 ≠ S ∧ l1 ≠ S ∧ l2 ≠ S) :
    ZSt xs ys z TI TO i1 i2 l1 l2 S i h' := by
  obtain ⟨n1, n2, n3, n4, n5, n6, n7⟩ := n
  refine ⟨k _ _ n2 t.ti, t.a1.at fun o e => k _ _ n4 e, t.a2.at fun o e => k _ _ n5 e,
    t.b1.at fun o e => k _ _ n6 e, t.b2.at fun o e => k _ _ n7 e, ?_⟩
  rcases t.z with ⟨q, a, b, r⟩ | ⟨T, f, oT, q, r, m1, m2, m3, m4⟩
  · exact .inl ⟨k _ _ n1 q, a, b, k _ _ n3 r⟩
  · exact .inr ⟨T, f, oT, k _ _ n1 q, k _ _ m4 r, m1, m2, m3, m4⟩
end
theorem far {c S : Nat} (h : c < S) (k : Nat) : S + k ≠ c := by omega
section
variable {prog : Program} {w : World} {A : Around} {s : Shared}
variable {R : Result → Shared → Prop}
variable {z TI TO i1 i2 l1 l2 : Addr} {S : Nat} {xs ys : Array Value}
end
section
variable {prog : Program} {w : World} {A : Around} {E : Value → Shared → Prop}
variable {s : Shared} {z TI TO i1 i2 l1 l2 : Addr} {xs ys : Array Value}
end
section
variable {X : Cx} {pins : List (Addr × Obj)} {σ : L2.St} {H H' : Hp} {s : Shared}
end
section
variable {K : PySem.W.Frag} {l : Option Addr} {ρ : Ro} {m : Nat}
variable {Φ : Nat → D → Prop} {tA : TA}
end
end Wt

namespace Wt
open PySem PySem.Spec PyProof.Rows L2
section
variable {X : Cx} {tg : Expr}
end
section
variable {K : PySem.W.Frag} {l : Option Addr} {ρ : Ro} {m : Nat}
variable {Φ : Nat → D → Prop} {Nx : Nat → Ro → Prop} {Rt : Nat → D → Prop}
variable {ta te tl : TE} {tb : TS} {tt : TT}
end
end Wt

namespace Wt
open PySem PySem.Spec PyProof.Rows L2
section
variable {P : Program} {w : World} {K : PySem.W.Frag}
variable {mg : Str → Option Value} {base : Heap} {CX : CXT}
variable {k : Nat} {f : Addr} {fd : FuncData} {ps : List Str} {sp : Sp}
theorem fnOk_no (h : ∀ vs H Q E, ¬ sp vs H Q E) : FnOk P w K mg base CX k f fd ps sp :=
  ⟨fun vs H Q E q => (h vs H Q E q).elim, fun _ _ _ H _ _ vs Q E _ _ _ _ q => (h vs H Q E q).elim⟩
theorem spH_no {pre : Nat → List D → Prop} {Ψ : List D → Nat → Nat → D → Prop} {vs : List V}
    {H : Hp} {Q : VK} {E : XK} (h : ∀ m ds, ¬ pre m ds) : ¬ SpH K pre Ψ vs H Q E := by
  rintro ⟨l, ws, B, ds, m, _, _, _, _, _, q, _⟩
  exact h m ds q
end
/-- a number, or a truth as one -/
def numV : V → Option Int
  | .int i => some i
  | .bl b => some (if b = true then 1 else 0)
  | _ => none
def D.num : D → Option Int
  | .int i => some i
  | .bl b => some (if b = true then 1 else 0)
  | _ => none
section
variable {X : Cx}
def rNum (g : Int → Int → Int) : R2 := fun x y H Q => ∃ i j, numV x = some i ∧ y = .int j ∧
  Q (.int (g i j)) H
theorem op_addN : OpR X (binaryOp .Add) (rNum (· + ·)) := by
  intro pins s σ H x y v u Q I rx ry h
  obtain ⟨i, j, hi, rfl, q⟩ := h
  cases x with
  | int a => cases hi; exact op_add pins s σ H _ _ v u Q I rx ry ⟨_, j, rfl, rfl, q⟩
  | bl b =>
    cases hi
    cases rx
    obtain ⟨t, rfl⟩ := ry
    exact PySem.IntBool.add_bool_int ⟨.int _, H, I.tok _, ⟨_, rfl⟩, q⟩
  | _ => cases hi
theorem op_subN : OpR X (binaryOp .Sub) (rNum (· - ·)) := by
  intro pins s σ H x y v u Q I rx ry h
  obtain ⟨i, j, hi, rfl, q⟩ := h
  cases x with
  | int a => cases hi; exact op_sub pins s σ H _ _ v u Q I rx ry ⟨_, j, rfl, rfl, q⟩
  | bl b =>
    cases hi
    cases rx
    obtain ⟨t, rfl⟩ := ry
    exact PySem.IntBool.sub_bool_int ⟨.int _, H, I.tok _, ⟨_, rfl⟩, q⟩
  | _ => cases hi
/-- str(x) of a number or a truth -/
def rStrN : List V → Hp → VK → Prop := fun xs H Q =>
  (∃ i : Int, xs = [.int i] ∧ i.natAbs.log2 < 1920 ∧ Q (.str (toString i)) H) ∨
  ∃ b : Bool, xs = [.bl b] ∧ Q (.str (if b then "True" else "False")) H
theorem call_strN : CallR X (.type "str") rStrN := by
  intro pins s σ H xs us Q I r h
  rcases h with h | ⟨b, rfl, q⟩
  · exact call_str_int pins s σ H xs us Q I r h
  · obtain ⟨u, rfl, ru⟩ := vals1 r
    cases ru
    exact PySem.P.str_of_bool ⟨.str _, H, I.tok _, ⟨_, rfl⟩, q⟩
end
section
variable {K : PySem.W.Frag} {l : Option Addr} {ρ : Ro} {m : Nat} {Φ : Nat → D → Prop}
theorem v_num {g : Int → Int → Int} {d : D} {i j : Int} (h : d.num = some i)
    (q : Φ m (.int (g i j))) :
    VvC K l ρ (fun vs H Q => ∃ x y, vs = [x, y] ∧ rNum g x y H Q) [d, .int j] m Φ := by
  intro Z B H σ vs Q ok is k
  obtain ⟨v, w, rfl, h1, h2⟩ := isAll2 is
  cases h2
  refine ⟨_, _, rfl, i, j, ?_, rfl, k _ _ m B H ok Fr.refl (.int _) q⟩
  cases h1 <;> first | exact h | cases h
theorem itm_str (x : String) (h : x.length ≤ 60) : Itm 0 60 (.str (Str.ofString x)) := by
  have e : (Str.ofString x).cps.toList = x.toList.map Char.toNat := by
    rw [Str.ofString_eq_toList]
  refine ⟨rfl, by rw [D.py, PyData.showable], by simp [D.py, PyData.depth], ?_, ?_⟩
  · rw [D.py, PyData.leavesShort, e, List.all_map, List.all_eq_true]
    intro c _
    have := c.valid
    have h2 : c.toNat < 1114112 := by
      rcases this with q | q
      · exact Nat.lt_trans q (by decide)
      · exact q.2
    exact decide_eq_true (Nat.lt_trans h2 (by decide))
  · rw [D.py, PyData.weight, ← Array.length_toList, e, List.length_map]
    exact h
theorem v_strN {d : D} {k w : Nat} (h : Itm k w d) (hn : (d.num).isSome = true)
    (q : ∀ x : Str, Itm 0 60 (.str x) → Φ m (.str x)) :
    VvC K l ρ rStrN [d] m Φ := by
  intro Z B H σ vs Q ok is kk
  obtain ⟨v, rfl, h1⟩ := isAll1 is
  cases h1 with
  | int i =>
    have hi : i.natAbs.log2 < 1920 := by
      have := h.able
      simpa [D.py, PyData.showable] using this
    have hs : (toString i).length ≤ 60 := by
      have := h.short
      rw [D.py, PyData.leavesShort, decide_eq_true_eq] at this
      have e : (PyData.shown (.int i)).length = (toString i).length := PySem.ofString_length _
      omega
    exact .inl ⟨i, rfl, hi, kk _ _ m B H ok Fr.refl (.str _) (q _ (itm_str _ hs))⟩
  | bl b =>
    refine .inr ⟨b, rfl, kk _ _ m B H ok Fr.refl (.str _) (q _ ?_)⟩
    cases b
    · exact itm_str "False" (by decide)
    · exact itm_str "True" (by decide)
  | _ => cases hn
variable {Nx : Nat → Ro → Prop} {Rt : Nat → D → Prop} {tA : TA}
/-- x = [a, b, ..] that will grow -/
theorem s_ownL {i : Nat} (h : AvC K l tA ρ m fun m1 ds => ds.length ≤ 100000 ∧
      Nx m1 (ρ.set i (some (.own ds)))) : SvC K l (tAsg (tLst tA) (gName i)) ρ m Nx Rt := by
  intro Z B H σ W ok k _
  refine h Z B H σ _ ok fun vs ds m1 B1 H1 o1 f1 i1 g1 => ?_
  refine ⟨by rw [i1.length]; exact Nat.le_trans g1.1 (by decide), fun p hp => ?_⟩
  have hz : ¬ Z p := fun z => (o1.zs p z).1 hp
  exact k _ _ m1 B1 _ ((o1.aside (o := .lst vs) hp).setOwn hz upd_same i1) (f1.trans
    ⟨Same.refl B1, fun z hz' => upd_ne fun e => hz (e ▸ hz')⟩) g1.2
end
structure Its (k w : Nat) (xs : List D) : Prop where
  plain : D.plains xs = true
  able : PyData.showableAll (D.pys xs) = true
  deep : PyData.depthAll (D.pys xs) ≤ k
  short : PyData.leavesShortAll 60 (D.pys xs) = true
  wt : PyData.weightAll (D.pys xs) ≤ w
section
variable {k w k' w' : Nat} {xs ys : List D} {x : D}
theorem Its.up (h : Its k w xs) (hk : k ≤ k') (hw : w ≤ w') : Its k' w' xs :=
  ⟨h.plain, h.able, Nat.le_trans h.deep hk, h.short, Nat.le_trans h.wt hw⟩
theorem Its.tup (h : Its k w xs) : Itm (k + 1) w (.tup xs) := by
  refine ⟨by rw [D.plain]; exact h.plain, by rw [D.py, PyData.showable]; exact h.able, ?_,
    by rw [D.py, PyData.leavesShort]; exact h.short, by rw [D.py, PyData.weight]; exact h.wt⟩
  rw [D.py, PyData.depth]
  have := h.deep
  omega
theorem Its.lst (h : Its k w xs) : Itm (k + 1) w (.lst xs) := by
  refine ⟨by rw [D.plain]; exact h.plain, by rw [D.py, PyData.showable]; exact h.able, ?_,
    by rw [D.py, PyData.leavesShort]; exact h.short, by rw [D.py, PyData.weight]; exact h.wt⟩
  rw [D.py, PyData.depth]
  have := h.deep
  omega
theorem Itm.its (h : Itm (k + 1) w (.tup xs)) : Its k w xs := by
  have h1 := h.plain
  have h2 := h.able
  have h3 := h.deep
  have h4 := h.short
  have h5 := h.wt
  rw [D.plain] at h1
  rw [D.py, PyData.showable] at h2
  rw [D.py, PyData.depth] at h3
  rw [D.py, PyData.leavesShort] at h4
  rw [D.py, PyData.weight] at h5
  exact ⟨h1, h2, by omega, h4, h5⟩
theorem Itm.deep1 (h : Itm k w (.tup xs)) : 1 ≤ k := by
  have h3 := h.deep
  rw [D.py, PyData.depth] at h3
  omega
theorem Its.nil : Its 0 0 [] := ⟨rfl, rfl, Nat.le_refl _, rfl, Nat.le_refl _⟩
theorem Its.cons (h : Itm k w x) (r : Its k w' xs) : Its k (w + 1 + w') (x :: xs) := by
  refine ⟨by rw [D.plains, h.plain, r.plain]; rfl, by rw [D.pys, PyData.showableAll, h.able, r.able]; rfl, ?_,
    by rw [D.pys, PyData.leavesShortAll, h.short, r.short]; rfl, ?_⟩
  · rw [D.pys, PyData.depthAll]
    exact Nat.max_le.mpr ⟨h.deep, r.deep⟩
  · rw [D.pys, PyData.weightAll]
    have := h.wt
    have := r.wt
    omega
theorem Its.head (r : Its k w (x :: xs)) : Itm k w x ∧ Its k w xs ∧
    x.py.weight + 1 + PyData.weightAll (D.pys xs) ≤ w := by
  have h1 := r.plain
  have h2 := r.able
  have h3 := r.deep
  have h4 := r.short
  have h5 := r.wt
  rw [D.plains, Bool.and_eq_true] at h1
  rw [D.pys, PyData.showableAll, Bool.and_eq_true] at h2
  rw [D.pys, PyData.depthAll] at h3
  rw [D.pys, PyData.leavesShortAll, Bool.and_eq_true] at h4
  rw [D.pys, PyData.weightAll] at h5
  have h3 := Nat.max_le.mp h3
  exact ⟨⟨h1.1, h2.1, h3.1, h4.1, by omega⟩, ⟨h1.2, h2.2, h3.2, h4.2, by omega⟩, h5⟩
theorem Its.app : ∀ {xs : List D} {w : Nat}, Its k w xs → Its k w' ys → Its k (w + w') (xs ++ ys)
  | [], w, _, r => r.up (Nat.le_refl _) (by omega)
  | x :: xs, w, h, r => by
    obtain ⟨h1, h2, h3⟩ := h.head
    have i := Its.app (xs := xs) (w := PyData.weightAll (D.pys xs)) ⟨h2.plain, h2.able, h2.deep, h2.short, Nat.le_refl _⟩ r
    have j : Its k (x.py.weight + 1 + (PyData.weightAll (D.pys xs) + w')) (x :: (xs ++ ys)) :=
      Its.cons ⟨h1.plain, h1.able, h1.deep, h1.short, Nat.le_refl _⟩ i
    exact j.up (Nat.le_refl _) (by omega)
theorem Its.sub : ∀ {xs ys : List D} {w : Nat}, ys.Sublist xs → Its k w xs → Its k w ys
  | _, _, _, .slnil, h => h
  | _, _, _, .cons a s, h => Its.sub s h.head.2.1
  | _, _, w, .cons₂ (l₂ := ys) (l₁ := zs) a s, h => by
    obtain ⟨h1, h2, h3⟩ := h.head
    have i := Its.sub s (w := PyData.weightAll (D.pys ys)) ⟨h2.plain, h2.able, h2.deep, h2.short, Nat.le_refl _⟩
    have j := Its.cons ⟨h1.plain, h1.able, h1.deep, h1.short, Nat.le_refl _⟩ i
    exact j.up (Nat.le_refl _) (by omega)
theorem Its.mem : ∀ {xs : List D}, Its k w xs → ∀ x ∈ xs, Itm k w x
  | x :: xs, h, y, hy => by
    rcases List.mem_cons.mp hy with q | q
    · rw [q]; exact h.head.1
    · exact Its.mem h.head.2.1 y q
end
def rEqE (K : PySem.W.Frag) : R2 := fun x y H Q => ∃ a b xs, x = .ref a ∧ y = .ref b ∧
  SqT K H a xs ∧ SqT K H b [] ∧ Q (.bl xs.isEmpty) H
theorem op_eqE {X : Cx} (hu : X.A.units + 64 < cLine) : OpR X (compareOp .Eq) (rEqE X.K) := by
  intro pins s σ H x y v u Q I rx ry h
  obtain ⟨a, b, xs, rfl, rfl, ha, hb, q⟩ := h
  cases rx
  cases ry
  obtain ⟨its, r, pt, _⟩ := I.tuple ha
  obtain ⟨its2, r2, pt2, _⟩ := I.tuple hb
  cases r2
  refine SeqAt.eq_tupleAt (e := fun _ => true) (items := its.toArray) (items2 := [].toArray) pt pt2
    (by omega) (fun j _ h2 => absurd h2 (Nat.not_lt_zero j)) ?_
  refine ⟨.bl xs.isEmpty, H, I, ?_, q⟩
  have hl := r.length
  show Value.bool _ = Value.bool _
  congr 1
  cases xs with
  | nil => cases r; rfl
  | cons x xs => cases r; rfl
section
variable {K : PySem.W.Frag} {l : Option Addr} {ρ : Ro} {m : Nat} {Φ : Nat → D → Prop}
theorem v_eqE {ds : List D} (q : Φ m (.bl ds.isEmpty)) :
    VvC K l ρ (fun vs H Q => ∃ x y, vs = [x, y] ∧ rEqE K x y H Q) [.tup ds, .tup []] m Φ := by
  intro Z B H σ vs Q ok is k
  obtain ⟨v, w, rfl, h1, h2⟩ := isAll2 is
  cases h1 with
  | @tup a us _ h1 r1 _ =>
    cases h2 with
    | @tup b ws _ h2 r2 _ =>
      cases r2
      refine ⟨_, _, rfl, a, b, us, rfl, rfl, sameT ok.sub h1, sameT ok.sub h2,
        k _ _ m B H ok Fr.refl (.bl _) ?_⟩
      have : us.isEmpty = ds.isEmpty := by cases r1 <;> rfl
      rw [this]
      exact q
end
mutual
def D.smallB (b : Int) : D → Bool
  | .int i => decide (-b ≤ i) && decide (i ≤ b)
  | .lst xs => D.smalls b xs
  | .tup xs => D.smalls b xs
  | _ => true
def D.smalls (b : Int) : List D → Bool
  | [] => true
  | x :: xs => D.smallB b x && D.smalls b xs
end
/-- data with small numbers, at most so deep, so much -/
structure Sm (b : Int) (k w : Nat) (d : D) : Prop where
  itm : Itm k w d
  sm : d.smallB b = true
structure Sms (b : Int) (k w : Nat) (xs : List D) : Prop where
  its : Its k w xs
  sm : D.smalls b xs = true
section
variable {b c : Int} {k w k' w' : Nat} {xs ys : List D} {x d : D}
theorem smalls_iff : ∀ {xs : List D}, D.smalls b xs = true ↔ ∀ x ∈ xs, x.smallB b = true
  | [] => by simp [D.smalls]
  | x :: xs => by
    rw [D.smalls, Bool.and_eq_true, smalls_iff (xs := xs)]
    simp
mutual
theorem smallB_up (h : b ≤ c) : ∀ d : D, d.smallB b = true → d.smallB c = true
  | .int i, q => by
    rw [D.smallB, Bool.and_eq_true, decide_eq_true_eq, decide_eq_true_eq] at q ⊢
    omega
  | .lst xs, q => by rw [D.smallB] at q ⊢; exact smalls_up h xs q
  | .tup xs, q => by rw [D.smallB] at q ⊢; exact smalls_up h xs q
  | .non, _ | .bl _, _ | .str _, _ | .dic _, _ | .ins _ _ _, _ | .scr _, _ | .dct _ _, _ => rfl
theorem smalls_up (h : b ≤ c) : ∀ xs : List D, D.smalls b xs = true → D.smalls c xs = true
  | [], _ => rfl
  | x :: xs, q => by
    rw [D.smalls, Bool.and_eq_true] at q ⊢
    exact ⟨smallB_up h x q.1, smalls_up h xs q.2⟩
end
theorem Sm.up (h : Sm b k w d) (hb : b ≤ c) (hk : k ≤ k') (hw : w ≤ w') : Sm c k' w' d :=
  ⟨h.itm.mono hk hw, smallB_up hb d h.sm⟩
theorem Sms.up (h : Sms b k w xs) (hb : b ≤ c) (hk : k ≤ k') (hw : w ≤ w') : Sms c k' w' xs :=
  ⟨h.its.up hk hw, smalls_up hb xs h.sm⟩
theorem Sms.tup (h : Sms b k w xs) : Sm b (k + 1) w (.tup xs) := ⟨h.its.tup, h.sm⟩
theorem Sms.lst (h : Sms b k w xs) : Sm b (k + 1) w (.lst xs) := ⟨h.its.lst, h.sm⟩
theorem Sm.sms (h : Sm b (k + 1) w (.tup xs)) : Sms b k w xs := ⟨h.itm.its, h.sm⟩
theorem Sms.nil : Sms b 0 0 [] := ⟨Its.nil, rfl⟩
theorem Sms.one (h : Sm b k w x) : Sms b k (w + 1) [x] :=
  ⟨(Its.cons h.itm (Its.nil.up (Nat.zero_le k) (Nat.le_refl 0))).up (Nat.le_refl _) (by omega),
    by rw [D.smalls, h.sm]; rfl⟩
theorem Sms.app (h : Sms b k w xs) (r : Sms b k w' ys) : Sms b k (w + w') (xs ++ ys) :=
  ⟨h.its.app r.its, smalls_iff.mpr fun x hx => (List.mem_append.mp hx).elim
    (smalls_iff.mp h.sm x) (smalls_iff.mp r.sm x)⟩
theorem Sms.sub (h : Sms b k w xs) (s : ys.Sublist xs) : Sms b k w ys :=
  ⟨h.its.sub s, smalls_iff.mpr fun x hx => smalls_iff.mp h.sm x (s.subset hx)⟩
theorem Sms.mem (h : Sms b k w xs) (hx : x ∈ xs) : Sm b k w x :=
  ⟨h.its.mem x hx, smalls_iff.mp h.sm x hx⟩
theorem Its.rev (h : Its k w xs) : Its k w xs.reverse := by
  have wr : ∀ ys : List D, PyData.weightAll (D.pys ys.reverse) = PyData.weightAll (D.pys ys) := by
    have wa : ∀ as bs : List D, PyData.weightAll (D.pys (as ++ bs)) =
        PyData.weightAll (D.pys as) + PyData.weightAll (D.pys bs) := by
      intro as bs
      induction as with
      | nil => simp [D.pys, PyData.weightAll]
      | cons a r ih =>
        rw [List.cons_append, D.pys, D.pys, PyData.weightAll, PyData.weightAll, ih]
        omega
    intro ys
    induction ys with
    | nil => rfl
    | cons a r ih =>
      rw [List.reverse_cons, wa, ih, D.pys, D.pys, D.pys, PyData.weightAll, PyData.weightAll, PyData.weightAll]
      omega
  refine ⟨?_, ?_, ?_, ?_, by rw [wr]; exact h.wt⟩
  · rw [plains_all, List.all_reverse, ← plains_all]; exact h.plain
  · have := h.able
    rw [pys_map, showableAll_all] at this ⊢
    rw [List.map_reverse, List.all_reverse]; exact this
  · refine depthAll_le (D.pys xs.reverse) fun x hx => ?_
    rw [pys_map, List.map_reverse, List.mem_reverse] at hx
    obtain ⟨y, hy, rfl⟩ := List.mem_map.mp hx
    exact (h.mem y hy).deep
  · have := h.short
    rw [pys_map, leavesShortAll_all] at this ⊢
    rw [List.map_reverse, List.all_reverse]; exact this
theorem Sms.rev (h : Sms b k w xs) : Sms b k w xs.reverse :=
  ⟨h.its.rev, smalls_iff.mpr fun x hx => smalls_iff.mp h.sm x (List.mem_reverse.mp hx)⟩
theorem Its.len : ∀ {xs : List D} {w : Nat}, Its k w xs → xs.length ≤ w
  | [], _, _ => Nat.zero_le _
  | x :: xs, w, h => by
    obtain ⟨_, h2, h3⟩ := h.head
    have := Its.len (xs := xs) (w := PyData.weightAll (D.pys xs)) ⟨h2.plain, h2.able, h2.deep, h2.short, Nat.le_refl _⟩
    rw [List.length_cons]
    omega
theorem cut_sub (xs : List D) (lo hi : Option Int) : (Wt.cutD xs lo hi).Sublist xs :=
  (List.take_sublist _ _).trans (List.drop_sublist _ _)
theorem sm_int {i : Int} (h : -9000 ≤ i) (h2 : i ≤ 9000) (hb : -b ≤ i) (hb2 : i ≤ b) : Sm b 0 15 (.int i) :=
  ⟨itm_int (by omega) (by omega), by
    rw [D.smallB, Bool.and_eq_true, decide_eq_true_eq, decide_eq_true_eq]; exact ⟨hb, hb2⟩⟩
end
end Wt

namespace Wt
open PySem PySem.Spec PyProof.Rows L2
theorem gives_neg_truth (b : Bool) : Gives (Builtin.«int.__neg__» ⟨[.bool b], []⟩)
    (.int (-(if b = true then (1 : Int) else 0))) :=
  Gives.of_wp fun M A E s Q q => by
    obtain ⟨h, gs, dr, tk, o⟩ := s
    wp_walk
    exact ⟨_, rfl, q⟩
section
variable {X : Cx}
def rNegN : V → Hp → VK → Prop := fun x H Q => ∃ i, numV x = some i ∧ Q (.int (-i)) H
theorem un_negN : UnR X (unaryOp .USub) rNegN := by
  intro pins s σ H x v Q I rx h
  obtain ⟨i, hi, q⟩ := h
  cases x with
  | int a => cases hi; exact un_neg pins s σ H _ v Q I rx ⟨_, rfl, q⟩
  | bl b =>
    cases hi
    cases rx
    exact unaryOp_gives (op := .USub) (T := "bool") rfl rfl PySem.F.slot_bool_neg PySem.F.entry_int_neg
      (PySem.F.args_int_neg_1 _) (gives_neg_truth b) ⟨.int _, H, I.tok _, ⟨_, rfl⟩, q⟩
  | _ => cases hi
end
section
variable {K : PySem.W.Frag} {l : Option Addr} {ρ : Ro} {m : Nat} {Φ : Nat → D → Prop} {ta : TE}
theorem v_boolN {d : D} (h : (d.num).isSome = true) (q : ∀ b, Φ m (.bl b)) :
    VvC K l ρ (fun xs H Q => (∃ i, xs = [.int i] ∧ Q (.bl (i != 0)) H) ∨ ∃ k, xs = [.bl k] ∧ Q (.bl k) H)
      [d] m Φ := by
  intro Z B H σ vs Q ok is k
  obtain ⟨v, rfl, h1⟩ := isAll1 is
  cases h1 with
  | int i => exact .inl ⟨i, rfl, k _ _ m B H ok Fr.refl (.bl _) (q _)⟩
  | bl b => exact .inr ⟨b, rfl, k _ _ m B H ok Fr.refl (.bl _) (q _)⟩
  | _ => cases h
end
theorem itm_mid {i : Int} (h1 : -(10 ^ 40) ≤ i) (h2 : i ≤ 10 ^ 40) : Itm 0 140 (.int i) := by
  have hl : i.natAbs.log2 < 140 :=
    PySem.Flt.log2_lt_of (by decide) (show i.natAbs < 2 ^ 140 by omega)
  have hs : (toString i).length ≤ 60 := by
    have := int_text_length_le10 (a := i) (k := 41) (by decide) (by omega)
    omega
  refine ⟨rfl, ?_, by simp [D.py, PyData.depth], ?_, ?_⟩
  · rw [D.py, PyData.showable]
    exact decide_eq_true (by omega)
  · rw [D.py, PyData.leavesShort]
    refine decide_eq_true ?_
    show (Str.ofString (toString i)).length ≤ 60
    rw [PySem.ofString_length]
    exact hs
  · rw [D.py, PyData.weight]
    split <;> omega
end Wt

namespace Wt
open PySem PySem.Spec PyProof.Rows L2
section
variable {P : Program} {w : World} {K : PySem.W.Frag} {mg : Str → Option Value} {base : Heap}
end
section
variable {K : PySem.W.Frag} {l : Option Addr} {ρ : Ro} {m : Nat}
variable {Φ : Nat → D → Prop} {tA : TA}
end
section
variable {K : PySem.W.Frag} {l : Option Addr} {ρ : Ro} {m : Nat}
variable {Φ : Nat → D → Prop} {Nx : Nat → Ro → Prop} {Rt : Nat → D → Prop} {ts tb : TS} {ta te tl : TE}
end
end Wt

namespace Wt
open PySem PySem.Spec PyProof.Rows L2
section
variable {X : Cx}
end
section
variable {K : PySem.W.Frag} {l : Option Addr} {ρ : Ro} {m : Nat}
variable {Φ : Nat → D → Prop} {ta : TE}
end
section
variable {K : PySem.W.Frag} {l : Option Addr} {ρ : Ro} {m : Nat}
variable {Nx : Nat → Ro → Prop} {Rt : Nat → D → Prop} {te : TE}
end
end Wt

namespace Wt
open PySem PySem.Spec PyProof.Rows L2
section
variable {X : Cx}
end
section
variable {K : PySem.W.Frag} {l : Option Addr} {ρ : Ro} {m : Nat}
variable {Φ : Nat → D → Prop}
end
end Wt

namespace Wt
open PySem PySem.Spec PyProof.Rows L2
section
variable {X : Cx}
end
section
variable {K : PySem.W.Frag} {l : Option Addr} {ρ : Ro} {m : Nat}
variable {Nx : Nat → Ro → Prop} {Rt : Nat → D → Prop} {te t1 t2 : TE} {tA : TA}
variable {Φ : Nat → D → Prop}
end
end Wt

namespace Wt
open PySem PySem.Spec PyProof.Rows L2
section
variable {prog : Program} {w : World} {A : Around}
variable {E : Value → Shared → Prop} {s : Shared}
end
section
variable {X : Cx}
end
section
variable {K : PySem.W.Frag} {l : Option Addr} {ρ : Ro} {m : Nat}
variable {Φ : Nat → D → Prop}
end
end Wt
namespace Wt
open PySem PySem.Spec PyProof.Rows L2
section
variable {X : Cx}
end
section
variable {K : PySem.W.Frag} {l : Option Addr} {ρ : Ro} {m : Nat}
variable {Φ : Nat → D → Prop} {ta : TE}
end
end Wt

namespace Wt
open PySem PySem.Spec PyProof.Rows L2
section
variable {K : PySem.W.Frag} {l : Option Addr} {ρ : Ro} {m : Nat}
variable {Φ : Nat → D → Prop} {te tl tl2 : TE} {tt : TT}
variable {Z : Addr → Prop} {B H : Hp} {σ : L2.St}
end
section
variable {K : PySem.W.Frag} {l : Option Addr} {ρ : Ro} {m : Nat}
variable {Nx : Nat → Ro → Prop} {Rt : Nat → D → Prop} {te : TE}
end
section
variable {K : PySem.W.Frag} {l : Option Addr} {ρ : Ro} {m : Nat}
variable {Φ : Nat → D → Prop} {te tl : TE} {tt : TT}
end
end Wt

namespace Wt
open PySem PySem.Spec PyProof.Rows L2
section
variable {P : Program} {w : World} {A : Around} {E : Value → Shared → Prop} {s : Shared}
/-- a key that the heap reads at an address -/
def KI (h : Heap) (k : NestedKey) (a : Addr) : Prop := NestedIs h k (.ref a) ∧ k.depth ≤ 8
/-- the rows of a table -/
def rowsN (w : World) (L : List (Addr × NestedKey)) : List (Int × Value) := L.map fun p => (NestedKey.hash w p.2, .ref p.1)
structure SetN (w : World) (h : Heap) (a : Addr) (L : List (Addr × NestedKey)) (es : Array (Int × Value)) (ep : Nat)
    (t : SetTable) : Prop where
  ob : ∃ o, h.get? a = some o ∧ o.ExactSet ∧ o.data = .set es ep t
  rows : es.toList = rowsN w L
  tab : TabOk t (L.map fun p => NestedKey.hash w p.2)
  nd : (L.map (·.2)).Nodup
  key : ∀ p ∈ L, KI h p.2 p.1
  room : L.length * 5 < t.mask * 3
  few : L.length < 64
  led : w.params.followText "set-order" = true ∨ t.led = true
theorem SetN.size {a : Addr} {L : List (Addr × NestedKey)} {es : Array (Int × Value)} {ep : Nat} {t : SetTable} {h : Heap}
    (S : SetN w h a L es ep t) : es.size = L.length := by
  rw [← Array.length_toList, S.rows, rowsN, List.length_map]
theorem SetN.entry {a : Addr} {L : List (Addr × NestedKey)} {es : Array (Int × Value)} {ep : Nat} {t : SetTable} {h : Heap}
    (S : SetN w h a L es ep t) {i : Nat} {p : Addr × NestedKey} (hp : L[i]? = some p) :
    es[i]? = some (NestedKey.hash w p.2, .ref p.1) := by
  rw [← Array.getElem?_toList, S.rows, rowsN, List.getElem?_map, hp]
  rfl
end
end Wt

namespace Wt
open PySem PySem.Spec PyProof.Rows L2
section
variable {P : Program} {w : World} {A : Around} {E : Value → Shared → Prop} {s : Shared}
theorem SetN.keep {h h' : Heap} {a : Addr} {L : List (Addr × NestedKey)} {es : Array (Int × Value)}
    {ep : Nat} {t : SetTable} (S : SetN w h a L es ep t)
    (ha : ∀ o, h.get? a = some o → h'.get? a = some o) (hk : ∀ p ∈ L, KI h' p.2 p.1) : SetN w h' a L es ep t := by
  obtain ⟨o, ho, r⟩ := S.ob
  exact ⟨⟨o, ha o ho, r⟩, S.rows, S.tab, S.nd, hk, S.room, S.few, S.led⟩
/-- what is in it of the first i of ks -/
structure HasN (ks : List (Addr × NestedKey)) (i : Nat) (L : List (Addr × NestedKey)) : Prop where
  sub : ∀ p ∈ L, p ∈ ks.take i
  all : ∀ p ∈ ks.take i, p.2 ∈ L.map (·.2)
  len : L.length ≤ i
theorem HasN.put {ks L L' : List (Addr × NestedKey)} {i : Nat} {x : Addr × NestedKey} (g : HasN ks i L)
    (h : ks[i]? = some x) (c : x.2 ∈ L.map (·.2) ∧ L' = L ∨ L'.Perm (x :: L)) : HasN ks (i + 1) L' := by
  have e : ks.take (i + 1) = ks.take i ++ [x] := L2.take_next h
  rcases c with ⟨hm, rfl⟩ | pm
  · refine ⟨fun p hp => e ▸ List.mem_append_left _ (g.sub p hp), fun p hp => ?_, by have := g.len; omega⟩
    rw [e, List.mem_append, List.mem_singleton] at hp
    rcases hp with z | rfl
    · exact g.all p z
    · exact hm
  · refine ⟨fun p hp => ?_, fun p hp => ?_, by rw [pm.length_eq, List.length_cons]; have := g.len; omega⟩
    · rw [e, List.mem_append, List.mem_singleton]
      rcases List.mem_cons.mp (pm.mem_iff.mp hp) with z | z
      · exact .inr z
      · exact .inl (g.sub p z)
    · rw [(pm.map (·.2)).mem_iff, List.map_cons, List.mem_cons]
      rw [e, List.mem_append, List.mem_singleton] at hp
      rcases hp with z | rfl
      · exact .inr (g.all p z)
      · exact .inl rfl
end
mutual
def D.nk : D → NestedKey
  | .int i => .num i
  | .tup xs => .tup (D.nks xs)
  | _ => .none
def D.nks : List D → List NestedKey
  | [] => []
  | x :: xs => D.nk x :: D.nks xs
end
mutual
/-- numbers, and tuples of such -/
def D.keyed : D → Bool
  | .int _ => true
  | .tup xs => D.keyeds xs
  | _ => false
def D.keyeds : List D → Bool
  | [] => true
  | x :: xs => D.keyed x && D.keyeds xs
end
section
variable {X : Cx}
end
end Wt
namespace Wt
open PySem PySem.Spec PyProof.Rows L2
section
variable {X : Cx}
end
section
variable {K : PySem.W.Frag} {l : Option Addr} {ρ : Ro} {m : Nat}
variable {Φ : Nat → D → Prop} {ta : TE}
end
end Wt
namespace Wt
open PySem PySem.Spec PyProof.Rows L2
section
variable {X : Cx}
end
section
variable {K : PySem.W.Frag} {l : Option Addr} {ρ : Ro} {m : Nat}
variable {Φ : Nat → D → Prop}
end
end Wt

namespace Wt
open PySem PySem.Spec PyProof.Rows L2
section
variable {X : Cx}
end
section
variable {K : PySem.W.Frag} {l : Option Addr} {ρ : Ro} {m : Nat}
variable {Φ : Nat → D → Prop}
end
end Wt

namespace Wt
open PySem PySem.Spec PyProof.Rows L2
section
variable {K : PySem.W.Frag} {l : Option Addr} {ρ : Ro} {m : Nat}
variable {Φ : Nat → D → Prop} {tl te : TE} {tt : TT}
end
end Wt

namespace Wt
open PySem PySem.Spec PyProof.Rows L2
section
variable {K : PySem.W.Frag} {l : Option Addr} {ρ : Ro} {m : Nat}
variable {Φ : Nat → D → Prop} {tl te : TE} {tt : TT} {tA : TA}
variable {Z : Addr → Prop} {B H : Hp} {σ : L2.St}
end
end Wt

namespace Wt
open PySem PySem.Spec PyProof.Rows L2
section
variable {K : PySem.W.Frag} {l : Option Addr} {ρ : Ro} {m : Nat}
variable {Φ : Nat → D → Prop} {te : TE} {tA tA2 : TA}
end
end Wt

namespace Wt
open PySem PySem.Spec PyProof.Rows L2
section
variable {X : Cx} {o e f : Expr} {apos cpos : Pos} {td ty tx : TE}
end
section
variable {K : PySem.W.Frag} {l : Option Addr} {ρ : Ro} {m : Nat}
variable {Φ : Nat → D → Prop} {Θ : Nat → Bool → Prop} {tl te tk tv : TE} {tt : TT} {tA : TA}
variable {Z : Addr → Prop} {B H : Hp} {σ : L2.St} {Nx : Nat → Ro → Prop} {Rt : Nat → D → Prop} {ts : TS}
abbrev ObR := Hp → Addr → HO → Prop
/-- it stays told while more is data -/
def ObR.Mono (R : ObR) : Prop := ∀ B1 B2 a o, Same B1 B2 → R B1 a o → R B2 a o
def DkR (K : PySem.W.Frag) (B : Hp) (p : Key × V) (q : Int × D) : Prop := p.1 = .inl q.1 ∧ Is K B p.2 q.2
def DctR (K : PySem.W.Frag) (kvs : List (Int × D)) : ObR := fun B _ o =>
  ∃ es : List (Key × V), o = .dK es ∧ Paired (DkR K B) es kvs
theorem DctR.mono {kvs : List (Int × D)} : (DctR K kvs).Mono := fun B1 B2 a o s ⟨es, e, p⟩ =>
  ⟨es, e, L2.Paired.mapP p fun x y z => ⟨z.1, z.2.mono s⟩⟩
end
end Wt

namespace Wt
open PySem PySem.Spec PyProof.Rows L2
section
variable {P : Program} {w : World} {A : Around} {E : Value → Shared → Prop} {s : Shared}
end
section
variable {X : Cx}
end
section
variable {K : PySem.W.Frag} {l : Option Addr} {ρ : Ro} {m : Nat}
variable {Φ : Nat → D → Prop} {ta : TE}
end
end Wt

namespace Wt
open PySem PySem.Spec PyProof.Rows L2
section
variable {X : Cx}
end
section
variable {K : PySem.W.Frag} {l : Option Addr} {ρ : Ro} {m : Nat}
variable {Φ : Nat → D → Prop} {tl te : TE}
end
end Wt

namespace Wt
open PySem PySem.Spec PyProof.Rows L2
section
variable {K : PySem.W.Frag} {l : Option Addr} {ρ : Ro} {m : Nat}
variable {Φ : Nat → D → Prop} {Θ : Nat → Bool → Prop} {ta tb te : TE}
end
end Wt

namespace Wt
open PySem PySem.Spec PyProof.Rows L2
/-- an entry: the key, where it stands, where its value stands -/
abbrev Ent := NestedKey × Addr × Addr
abbrev entN (w : World) (e : Ent) : DictEntry := ⟨NestedKey.hash w e.1, .ref e.2.1, .ref e.2.2⟩
def RawN (w : World) (h : Heap) (a : Addr) (L : List Ent) : Prop :=
  (a == sysModules) = false ∧ ∃ es ep, h.DictRaw a es ep ∧ es.toList = L.map (entN w)
def DnO (w : World) (a : Addr) (L : List Ent) : HO := .ext fun h => RawN w h a L
section
variable {P : Program} {w : World} {A : Around} {E : Value → Shared → Prop} {s : Shared}
end
section
variable {X : Cx}
structure DnE (K : PySem.W.Frag) (B : Hp) (e : Ent) (q : List D × List D) : Prop where
  key : e.1 = (D.tup q.1).nk
  kd : D.keyeds q.1 = true
  dp : (D.tup q.1).nk.depth ≤ 8
  ki : Is K B (.ref e.2.1) (.tup q.1)
  vi : Is K B (.ref e.2.2) (.tup q.2)
theorem DnE.mono {K : PySem.W.Frag} {B B2 : Hp} {e : Ent} {q : List D × List D} (h : DnE K B e q) (s : Same B B2) : DnE K B2 e q :=
  ⟨h.key, h.kd, h.dp, h.ki.mono s, h.vi.mono s⟩
def DnR (w : World) (K : PySem.W.Frag) (kvs : List (List D × List D)) : ObR := fun B a o =>
  ∃ L, o = DnO w a L ∧ Paired (DnE K B) L kvs
theorem DnR.mono {w : World} {K : PySem.W.Frag} {kvs : List (List D × List D)} : (DnR w K kvs).Mono := fun B1 B2 a o s ⟨L, e, p⟩ =>
  ⟨L, e, L2.Paired.mapP p fun x y z => z.mono s⟩
theorem paired_memL {α β : Type} {F : α → β → Prop} : ∀ {l1 : List α} {l2 : List β}, Paired F l1 l2 → ∀ a ∈ l1, ∃ b ∈ l2, F a b
  | _, _, .nil, a, h => nomatch h
  | _, _, .cons r t, a, h => by
    rcases List.mem_cons.mp h with rfl | h
    · exact ⟨_, List.mem_cons_self, r⟩
    · obtain ⟨b, hb, q⟩ := paired_memL t a h
      exact ⟨b, List.mem_cons_of_mem _ hb, q⟩
end
end Wt

namespace Wt
open PySem PySem.Spec PyProof.Rows L2
section
variable {X : Cx}
end
end Wt

namespace Wt
open PySem PySem.Spec PyProof.Rows L2
section
variable {K : PySem.W.Frag} {l : Option Addr} {ρ : Ro} {m : Nat} {w : World}
variable {Φ : Nat → D → Prop} {te tk tv : TE} {Nx : Nat → Ro → Prop} {Rt : Nat → D → Prop}
end
end Wt

namespace Wt
open PySem PySem.Spec PyProof.Rows L2
section
variable {K : PySem.W.Frag} {l : Option Addr} {ρ : Ro} {m : Nat}
variable {Nx : Nat → Ro → Prop} {Rt : Nat → D → Prop} {t1 t2 tl te : TE}
end
end Wt

namespace Wt
open PySem PySem.Spec PyProof.Rows L2
section
variable {K : PySem.W.Frag} {l : Option Addr} {ρ : Ro} {m : Nat}
variable {Φ : Nat → D → Prop} {te : TE} {tA : TA}
end
end Wt

namespace Wt
open PySem PySem.Spec PyProof.Rows L2
section
variable {K : PySem.W.Frag} {l : Option Addr} {ρ : Ro} {m : Nat}
variable {Φ : Nat → D → Prop} {te : TE} {tA : TA}
/-- [e for x in range(a, b)], by a function of how far x is from a -/
theorem e_lcR2f {j : Nat} (hj : ρ[j]? = some none)
    (h : AvC K l tA ρ m fun m1 as => ∃ a b : Nat, as = [.int a, .int b] ∧ a ≤ 50000 ∧ b ≤ 50000 ∧
      ∃ f : Nat → D, (∀ t : Nat, t < b - a → EvC K l te (ρ.set j (some (.dat (.int (a + t : Nat))))) m1 fun n2 y => n2 = m1 ∧ y = f t) ∧
      Φ m1 (.lst ((List.range (b - a)).map f))) :
    EvC K l (tLc (iRng2 tA) (gName j) tYes te [j]) ρ m Φ := by
  intro Z B H σ Q ok k
  refine h Z B H σ _ ok fun vs x m1 B1 H1 o1 f1 i1 g1 => ?_
  obtain ⟨a, b, rfl, ha, hb, f, he, hq⟩ := g1
  obtain ⟨v, w, rfl, z1, z2⟩ := isAll2 i1
  cases z1
  cases z2
  refine ⟨(a : Int), (b : Int), rfl, ⟨by omega, by omega, by omega, by omega⟩, fun A hA => ?_⟩
  have hba : ((b : Int) - (a : Int)).toNat = b - a := by omega
  rw [hba]
  have hz : ¬ Z A := fun z => (o1.zs A z).1 hA
  refine lc_range (lo := (a : Int)) (n := b - a) (LcW K l Z ρ σ B1 H1 A fun i n acc => n = m1 ∧ acc = ((List.range (b - a)).map f).take i)
    (lcw_start o1 hA ⟨rfl, rfl⟩) (fun i H' hi w => ?_) fun H' w => ?_
  · have e0 : (a : Int) + (i : Int) = ((a + i : Nat) : Int) := by omega
    rw [e0]
    refine lcw_turn (P := fun d => d = .int (a + i : Nat)) hz hj w
      (fun B' sb => ⟨_, .int _, rfl⟩) (by omega) fun d n acc e hI _ => ?_
    subst e
    obtain ⟨rfl, rfl⟩ := hI
    refine e_imp (he i hi) fun n2 y q => ?_
    obtain ⟨rfl, rfl⟩ := q
    refine ⟨rfl, (take_snoc' ?_).symm⟩
    rw [List.getElem?_map, List.getElem?_range hi]; rfl
  · refine lcw_end hz w (Φ := Φ) (fun n acc _ hI => ?_) fun v d m' B2 H2 o2 f2 i2 g2 => k v d m' B2 H2 o2 (f1.trans f2) i2 g2
    obtain ⟨rfl, rfl⟩ := hI
    rw [List.take_of_length_le (by simp)]
    exact hq
end
end Wt

namespace Wt
open PySem PySem.Spec PyProof.Rows L2
section
variable {K : PySem.W.Frag} {l : Option Addr} {ρ : Ro} {m : Nat} {Φ : Nat → D → Prop}
variable {Nx : Nat → Ro → Prop} {Rt : Nat → D → Prop}
end
end Wt

namespace Wt
open PySem PySem.Spec PyProof.Rows L2
section
variable {K : PySem.W.Frag} {l : Option Addr} {ρ : Ro} {m : Nat} {Φ : Nat → D → Prop} {te : TE}
end
def D.isStr : D → Bool
  | .str _ => true
  | _ => false
section
variable {K : PySem.W.Frag} {l : Option Addr} {ρ : Ro} {m : Nat} {Φ : Nat → D → Prop}
end
end Wt

namespace Wt
open PySem PySem.Spec PyProof.Rows L2
/-- an entry's key -/
structure KeyE (K : PySem.W.Frag) (B : Hp) (e : Ent) (t : List D) : Prop where
  key : e.1 = (D.tup t).nk
  kd : D.keyeds t = true
  dp : (D.tup t).nk.depth ≤ 8
  ki : Is K B (.ref e.2.1) (.tup t)
theorem KeyE.mono {K : PySem.W.Frag} {B B2 : Hp} {e : Ent} {t : List D} (h : KeyE K B e t) (s : Same B B2) : KeyE K B2 e t :=
  ⟨h.key, h.kd, h.dp, h.ki.mono s⟩
section
variable {X : Cx} {o e f : Expr} {apos cpos pos : Pos} {td ty tx : TE}
end
end Wt

namespace Wt
open PySem PySem.Spec PyProof.Rows L2
abbrev BxV := List D × Int × Int
/-- a dict whose entries are told -/
def DnLR (w : World) (L : List Ent) : ObR := fun _ a o => o = DnO w a L
theorem DnLR.mono {w : World} {L : List Ent} : (DnLR w L).Mono := fun _ _ _ _ _ h => h
structure BxE (K : PySem.W.Frag) (B H : Hp) (e : Ent) (q : BxV) : Prop where
  key : KeyE K B e q.1
  val : H e.2.2 = some (.lst [.int q.2.1, .int q.2.2])
abbrev bxs (L : List Ent) : List Addr := L.map (·.2.2)
theorem BxE.at {K : PySem.W.Frag} {B H : Hp} : ∀ {L : List Ent} {kvs : List BxV}, Paired (BxE K B H) L kvs → ∀ e ∈ L, ∃ q ∈ kvs, BxE K B H e q :=
  fun p => paired_memL p
theorem BxE.more {K : PySem.W.Frag} {B H B2 H2 : Hp} (s : Same B B2) : ∀ {L : List Ent} {kvs : List BxV}, (∀ z ∈ bxs L, H2 z = H z) → Paired (BxE K B H) L kvs → Paired (BxE K B2 H2) L kvs
  | _, _, _, .nil => .nil
  | _, _, k, .cons r p => .cons ⟨r.key.mono s, by rw [k _ List.mem_cons_self]; exact r.val⟩ (BxE.more s (fun z hz => k z (List.mem_cons_of_mem _ hz)) p)
section
variable {K : PySem.W.Frag} {l : Option Addr} {w : World} {i : Nat} {ts tu tb : TS} {ρ : Ro} {m : Nat} {kvs : List BxV} {Nx Nx' : Nat → Ro → List BxV → Prop}
variable {tl te tk : TE}
end
end Wt

namespace Wt
open PySem PySem.Spec PyProof.Rows L2
section
variable {K : PySem.W.Frag} {l : Option Addr} {w : World} {i : Nat} {ts tu tb : TS} {ρ : Ro} {m : Nat} {kvs : List BxV} {Nx Nx' : Nat → Ro → List BxV → Prop}
variable {tl te tk : TE}
end
structure VlE (K : PySem.W.Frag) (B : Hp) (e : Ent) (q : List D × D) : Prop where
  key : KeyE K B e q.1
  vi : Is K B (.ref e.2.2) q.2
theorem VlE.mono {K : PySem.W.Frag} {B B2 : Hp} {e : Ent} {q : List D × D} (h : VlE K B e q) (s : Same B B2) : VlE K B2 e q := ⟨h.key.mono s, h.vi.mono s⟩
def DvR (w : World) (K : PySem.W.Frag) (kvs : List (List D × D)) : ObR := fun B a o => ∃ L, o = DnO w a L ∧ Paired (VlE K B) L kvs
theorem DvR.mono {w : World} {K : PySem.W.Frag} {kvs : List (List D × D)} : (DvR w K kvs).Mono := fun B1 B2 a o s ⟨L, e, p⟩ =>
  ⟨L, e, L2.Paired.mapP p fun x y z => z.mono s⟩
section
variable {K : PySem.W.Frag} {l : Option Addr} {w : World} {i : Nat} {ts tu tb : TS} {ρ : Ro} {m : Nat} {kvs : List BxV}
variable {tl te tk : TE} {Z : Addr → Prop} {B H : Hp} {σ : L2.St} {Nx : Nat → Ro → Prop} {Rt : Nat → D → Prop} {Φ : Nat → D → Prop}
variable {tA : TA}
end
end Wt

namespace Wt
open PySem PySem.Spec PyProof.Rows L2
section
variable {X : Cx}
end
section
variable {K : PySem.W.Frag} {l : Option Addr} {ρ : Ro} {m : Nat} {Φ : Nat → D → Prop}
end
section
variable {K : PySem.W.Frag} {l : Option Addr} {ρ : Ro} {m : Nat} {Φ : Nat → D → Prop}
end
abbrev entT (w : World) (e : Ent) : DictEntry := ⟨NestedKey.hash w e.1, .ref e.2.1, .bool true⟩
def RawT (w : World) (h : Heap) (a : Addr) (L : List Ent) : Prop :=
  (a == sysModules) = false ∧ ∃ es ep, h.DictRaw a es ep ∧ es.toList = L.map (entT w)
def DtO (w : World) (a : Addr) (L : List Ent) : HO := .ext fun h => RawT w h a L
section
variable {P : Program} {w : World}
end
section
variable {X : Cx} {o e f : Expr} {apos cpos pos : Pos} {td ty tx : TE}
end
def DtR (w : World) (K : PySem.W.Frag) (ks : List (List D)) : ObR := fun B a o => ∃ L, o = DtO w a L ∧ Paired (KeyE K B) L ks
theorem DtR.mono {w : World} {K : PySem.W.Frag} {ks : List (List D)} : (DtR w K ks).Mono := fun B1 B2 a o s ⟨L, e, p⟩ =>
  ⟨L, e, L2.Paired.mapP p fun x y z => z.mono s⟩
section
variable {K : PySem.W.Frag} {l : Option Addr} {ρ : Ro} {m : Nat} {w : World}
variable {Φ : Nat → D → Prop} {te tk tv : TE} {Nx : Nat → Ro → Prop} {Rt : Nat → D → Prop}
end
end Wt

namespace Wt
open PySem PySem.Spec PyProof.Rows L2
section
variable {K : PySem.W.Frag} {l : Option Addr} {ρ : Ro} {m : Nat}
variable {Φ : Nat → D → Prop} {tl te : TE} {tt : TT} {tA : TA}
variable {Z : Addr → Prop} {B H : Hp} {σ : L2.St}
end
end Wt

namespace Wt
open PySem PySem.Spec PyProof.Rows L2
section
open PySem.SeqAt AutoSeq1 MeetsSeq
variable {A : Around} {s : Shared}
end
section
variable {K : PySem.W.Frag} {l : Option Addr} {ρ : Ro} {m : Nat} {Φ : Nat → D → Prop} {te : TE}
end
end Wt

namespace Wt
open PySem PySem.Spec PyProof.Rows L2 HT
section
variable {prog : Program} {w : World} {A : Around}
variable {E : Value → Shared → Prop} {s : Shared}
end
section
variable {X : Cx}
end
section
variable {K : PySem.W.Frag} {l : Option Addr} {ρ : Ro} {m : Nat}
variable {Φ : Nat → D → Prop} {te : TE} {B : Hp}
end
end Wt

namespace Wt
open PySem PySem.Spec PyProof.Rows L2
def DsR (ts : List Str) : ObR := fun _ _ o => ∃ kvs : List (Key × V), o = .dK kvs ∧ ∀ s : Str, (valV kvs (.inr s)).isSome = true ↔ s ∈ ts
theorem DsR.mono {ts : List Str} : ObR.Mono (DsR ts) := fun _ _ _ _ _ h => h
section
variable {K : PySem.W.Frag} {l : Option Addr} {ρ : Ro} {m : Nat}
variable {Nx : Nat → Ro → Prop} {Rt : Nat → D → Prop} {Φ : Nat → D → Prop} {te tk : TE}
end
end Wt

namespace Wt
open PySem PySem.Spec PyProof.Rows L2
section
variable {K : PySem.W.Frag} {l : Option Addr} {ρ : Ro} {m : Nat}
variable {Φ : Nat → D → Prop} {ts : TS} {tk tx ta tb : TE}
variable {Z : Addr → Prop} {B H : Hp} {σ : L2.St}
open Classical in
/-- the heap without what stands at p -/
noncomputable def less1 (H : Hp) (p : Addr) : Hp := fun a => if a = p then none else H a
theorem less1_ne {p a : Addr} (h : a ≠ p) : less1 H p a = H a := if_neg h
theorem Ok.drop {p : Addr} (h : Ok K l (fun a => Z a ∨ a = p) m B H σ ρ) (hz : ¬ Z p) : Ok K l Z m B (less1 H p) σ ρ := by
  obtain ⟨p1, p2, p3⟩ := h.zs p (.inr rfl)
  refine ⟨⟨fun a o e => ?_, fun a e => ⟨?_, (h.hand a e).2⟩, fun z q => ?_, h.tab.keep (Same.refl B) (fun _ _ e => e) fun q hq ps e => (less1_ne (p3.2 q hq)).trans e⟩, h.len, fun i s e => ?_, h.dis⟩
  · rw [less1_ne (fun n => by rw [n, p2] at e; cases e)]
    exact h.sub a o e
  · obtain ⟨g, s, c, q, r⟩ := (h.hand a e).1
    exact ⟨g, s, c, (less1_ne (fun (n : a = p) => p3.1 (n ▸ e))).trans q, r⟩
  · obtain ⟨q1, q2, q3⟩ := h.zs z (.inl q)
    exact ⟨by rw [less1_ne (fun (n : z = p) => hz (n ▸ q))]; exact q1, q2, q3⟩
  · obtain ⟨v, e1, q⟩ := h.sl i s e
    refine ⟨v, e1, ?_⟩
    cases s with
    | dat d => exact q
    | hand => exact q
    | own ds =>
      obtain ⟨a, xs, rfl, q1, q2, q3, q4, q5⟩ := q
      exact ⟨a, xs, rfl, (less1_ne (fun n => q3 (.inr n))).trans q1, q2, fun z => q3 (.inl z), q4, q5⟩
    | obj R =>
      obtain ⟨a, o, rfl, q1, q2, q3, q4, q5, q6⟩ := q
      exact ⟨a, o, rfl, (less1_ne (fun n => q3 (.inr n))).trans q1, q2, fun z => q3 (.inl z), q4, q5, q6⟩
variable {tk2 tv tv2 : TE}
end
end Wt

namespace Wt
open PySem PySem.Spec PyProof.Rows L2
section
variable {K : PySem.W.Frag} {l : Option Addr} {ρ : Ro} {m : Nat}
variable {Ψ : Nat → List D → Prop} {Φ : Nat → D → Prop} {te tl : TE} {tA : TA} {ti ti2 : TI} {tt : TT}
end
section
variable {K : PySem.W.Frag} {l : Option Addr} {ρ : Ro} {m : Nat} {Φ : Nat → D → Prop}
end
end Wt

namespace Wt
open PySem PySem.Spec PyProof.Rows L2
section
variable {K : PySem.W.Frag} {l : Option Addr} {ρ : Ro} {m : Nat} {Φ : Nat → D → Prop}
end
end Wt

namespace PySem.W
open PySem PySem.Spec PySem.Calls PyProof.Rows PySem.SeqAt
section
variable {prog : Program} {w : World} {A : Around} {E : Value → Shared → Prop} {s : Shared}
end
end PySem.W
namespace Wt
open PySem PySem.Spec PyProof.Rows L2
section
variable {K : PySem.W.Frag} {l : Option Addr} {ρ : Ro} {m : Nat} {Φ : Nat → D → Prop} {ta tb te : TE} {tt : TT}
end
end Wt

namespace Wt
open PySem PySem.Spec PyProof.Rows L2
section
variable {K : PySem.W.Frag} {l : Option Addr} {ρ : Ro} {m : Nat} {Nx : Nat → Ro → Prop} {Rt : Nat → D → Prop} {te : TE} {tA : TA}
variable {Φ : Nat → D → Prop}
end
end Wt

namespace Wt
open PySem PySem.Spec PyProof.Rows L2
abbrev BxL := List D × List D
structure BlE (K : PySem.W.Frag) (B H : Hp) (e : Ent) (q : BxL) : Prop where
  key : KeyE K B e q.1
  val : ∃ vs, H e.2.2 = some (.lst vs) ∧ IsAll K B vs q.2
theorem BlE.more {K : PySem.W.Frag} {B H B2 H2 : Hp} (s : Same B B2) : ∀ {L : List Ent} {kvs : List BxL}, (∀ z ∈ bxs L, H2 z = H z) → Paired (BlE K B H) L kvs → Paired (BlE K B2 H2) L kvs
  | _, _, _, .nil => .nil
  | _, _, k, .cons r p => .cons ⟨r.key.mono s, by
      obtain ⟨vs, e, i⟩ := r.val
      exact ⟨vs, by rw [k _ List.mem_cons_self]; exact e, i.mono s⟩⟩ (BlE.more s (fun z hz => k z (List.mem_cons_of_mem _ hz)) p)
section
variable {K : PySem.W.Frag} {l : Option Addr} {w : World} {i : Nat} {ts tu tb : TS} {ρ : Ro} {m : Nat} {kvs : List BxL} {Nx Nx' : Nat → Ro → List BxL → Prop}
variable {tl te tk : TE} {tA : TA}
end
end Wt

namespace Wt
open PySem PySem.Spec PyProof.Rows L2
section
variable {K : PySem.W.Frag} {B : Hp}
end
section
variable {K : PySem.W.Frag} {l : Option Addr} {w : World} {i : Nat} {ts tu tb tf tr : TS} {ρ : Ro} {m : Nat} {kvs : List BxL} {Nx : Nat → Ro → List BxL → Prop}
variable {tl te tk : TE} {tA : TA} {Nx0 : Nat → Ro → Prop} {Rt : Nat → D → Prop}
end
end Wt

namespace Wt
open PySem PySem.Spec PyProof.Rows L2
/-- what is put into the dict at the address, by key and value -/
abbrev PutT := Hp → Addr → V → V → (Hp → Prop) → Prop
section
variable {K : PySem.W.Frag} {l : Option Addr} {ρ : Ro} {m : Nat} {Nx : Nat → Ro → Prop} {Rt : Nat → D → Prop}
variable {tl tk tv : TE} {tA : TA} {mk : Addr → HO} {put : PutT}
/-- the dict at A so far -/
def DcW (K : PySem.W.Frag) (l : Option Addr) (Z : Addr → Prop) (ρ : Ro) (σ : L2.St) (m : Nat) (B H : Hp) (A : Addr) (S : ObR) (H' : Hp) : Prop :=
  ∃ B' o, Ok K l (fun a => Z a ∨ a = A) m B' H' σ ρ ∧ Fr Z B H B' H' ∧ H' A = some o ∧ S B' A o
structure DcStep (K : PySem.W.Frag) (put : PutT) (S : Nat → ObR) (key val : Nat → D) (n : Nat) : Prop where
  mono : ∀ c, (S c).Mono
  step : ∀ (c : Nat) (B H : Hp) (A : Addr) (o : HO) (y z : V) (R : Hp → Prop), c < n → Same B H → H A = some o → S c B A o → Is K B y (key c) → Is K B z (val c) →
    (∀ o', S (c + 1) B A o' → R (upd H A o')) → put H A y z R
theorem dcw_turn {Z : Addr → Prop} {σ : L2.St} {B H H' : Hp} {A a2 : Addr} {i j c n : Nat} {x y : V} {d e : D} {S : Nat → ObR} {key val : Nat → D} (st : DcStep K put S key val n) (hz : ¬ Z A)
    (hi : ρ[i]? = some none) (hj : ρ[j]? = some none) (hij : i ≠ j) (hc : c < n)
    (hk : EvC K l tk ((ρ.set i (some (.dat d))).set j (some (.dat e))) m fun n2 y => n2 = m ∧ y = key c)
    (hv : EvC K l tv ((ρ.set i (some (.dat d))).set j (some (.dat e))) m fun n2 y => n2 = m ∧ y = val c)
    {B' : Hp} {o : HO} (ok : Ok K l (fun a => Z a ∨ a = A) m B' H' σ ρ) (fr : Fr Z B H B' H') (hA : H' A = some o) (hS : S c B' A o)
    (hp : SqT K H' a2 [x, y]) (px : Is K B' x d) (py : Is K B' y e) :
    g2 K i j (.ref a2) (wipe σ [i, j]) H' fun σ2 H3 => wipe σ2 [i, j] = wipe σ [i, j] ∧ tk σ2 H3 fun y H4 => tv σ2 H4 fun z H5 => put H5 A y z (DcW K l Z ρ σ m B H A (S (c + 1))) := by
  refine ⟨a2, [x, y], rfl, hp, rfl, x, [y], rfl, y, [], rfl, rfl, ?_⟩
  have e1 : ((wipe σ [i, j]).set i (some x)).set j (some y) = (σ.set i (some x)).set j (some y) := by
    show ((((σ.set j none).set i none).set i (some x)).set j (some y)) = _
    rw [List.set_set, List.set_comm _ _ hij, List.set_set, List.set_comm _ _ (Ne.symm hij)]
  have e2 : wipe ((σ.set i (some x)).set j (some y)) [i, j] = wipe σ [i, j] := by
    show (((σ.set i (some x)).set j (some y)).set j none).set i none = (σ.set j none).set i none
    rw [List.set_set, List.set_comm _ _ hij, List.set_set]
  rw [e1]
  refine ⟨e2, ?_⟩
  have hj2 : (ρ.set i (some (.dat d)))[j]? = some none := by rw [List.getElem?_set_ne hij]; exact hj
  refine hk _ B' H' _ _ ((ok.set px).set py) fun yk dk n1 B1 H1 o1 f1 i1 g1 => ?_
  obtain ⟨rfl, rfl⟩ := g1
  refine hv _ B1 H1 _ _ o1 fun zk dz n2 B2 H2 o2 f2 i2 g2' => ?_
  obtain ⟨rfl, rfl⟩ := g2'
  have hA2 : H2 A = some o := by rw [f2.kept A (.inr rfl), f1.kept A (.inr rfl)]; exact hA
  have o3 := (o2.unset hj2).unset hi
  refine st.step c B2 H2 A o yk zk _ hc o3.sub hA2 (st.mono c _ _ _ _ (f1.sub.trans f2.sub) hS) (i1.mono f2.sub) i2 fun o' hS' => ?_
  refine ⟨B2, o', o3.write (.inr rfl), ⟨(fr.sub.trans f1.sub).trans f2.sub, fun z hz' => ?_⟩, upd_same, hS'⟩
  rw [upd_ne (fun (q : z = A) => hz (q ▸ hz')), f2.kept z (.inl hz'), f1.kept z (.inl hz')]
  exact fr.kept z hz'
end
end Wt

namespace Wt
open PySem PySem.Spec PyProof.Rows L2
section
variable {X : Cx}
variable {wi : TI} {g : TG} {tk tv : TE} {tg kx vx iter : Expr} {scope : Scope} {own : List (Str × Nat)} {pos : Pos}
end
end Wt

namespace Wt
open PySem PySem.Spec PyProof.Rows L2
section
variable {K : PySem.W.Frag} {B : Hp} {w : World}
end
section
variable {K : PySem.W.Frag} {l : Option Addr} {ρ : Ro} {m : Nat} {Nx : Nat → Ro → Prop} {Rt : Nat → D → Prop} {w : World}
variable {te tk ta tc : TE} {tA : TA} {ti : TI} {tb : TS} {Φ : Nat → D → Prop}
end
end Wt

namespace Wt
open PySem PySem.Spec PyProof.Rows L2
section
variable {X : Cx} {wi : TI} {g : TG} {tk tv : TE} {tg kx vx iter : Expr} {scope : Scope} {own : List (Str × Nat)} {pos : Pos}
end
end Wt

namespace Wt
open PySem PySem.Spec PyProof.Rows L2
section
variable {K : PySem.W.Frag} {l : Option Addr} {ρ : Ro} {m : Nat}
variable {Φ : Nat → D → Prop} {Θ : Nat → Bool → Prop}
variable {Nx : Nat → Ro → Prop} {Rt : Nat → D → Prop} {ts tb : TS}
variable {ta te tl : TE} {t u : TT} {tA tK : TA}
end
end Wt

namespace Wt
open PySem PySem.Spec PyProof.Rows L2
section
variable {K : PySem.W.Frag} {l : Option Addr} {ρ : Ro} {m : Nat}
variable {Φ : Nat → D → Prop} {Nx : Nat → Ro → Prop} {Rt : Nat → D → Prop} {ts tb : TS} {ta te tl : TE} {tA : TA}
end
end Wt

namespace Wt
open PySem PySem.Spec PyProof.Rows L2
section
variable {K : PySem.W.Frag} {l : Option Addr} {ρ : Ro} {m : Nat}
variable {Nx : Nat → Ro → Prop} {Rt : Nat → D → Prop} {Φ : Nat → D → Prop} {te tk : TE}
end
end Wt

namespace Wt
open PySem PySem.Spec PyProof.Rows L2
section
variable {K : PySem.W.Frag} {l : Option Addr} {w : World} {i : Nat} {ts tu tb : TS} {ρ : Ro} {m : Nat} {kvs : List BxL} {Nx : Nat → Ro → List BxL → Prop}
variable {te : TE}
end
end Wt

namespace We
open PySem PySem.W PySem.Calls PyProof.Rows PySem.Spec
abbrev veB : List Value := [.type "ValueError", .type "Exception", .type "BaseException", .type "object"]
/-- the body of such an __init__ -/
def excBody (txt fld : Str) (p0 p1 p2 p3 p4 p5 p6 p7 p8 p9 : Pos) : List Stmt :=
  [.Expr (.Call (.Attribute (.Call (.Name "super" p0) [] [] p1) "__init__" p2) [.Constant (.str txt) 0 p3] [] p4) p5,
   .Assign [.Attribute (.Name "self" p6) fld p7] (.Name fld p8) p9]
section
variable {prog : Program} {w : World} {A : Around} {E : Value → Shared → Prop} {K : Frag} {C fI cc cda : Addr} {hh : Heap} {g : Array GenState} {d : Drawn} {t : Nat} {os : OsState}
variable {mg mb : Str → Option Value} {qual txt fld file : Str} {params : Arguments} {scope : Scope} {dV kV doc pm ct oc ccl cl : Value} {an od cdd cld : Option Addr} {osl ccs csl : Array (Option Value)} {vs : Array Value} {tf : Tok} {ar : Arg}
variable {p0 p1 p2 p3 p4 p5 p6 p7 p8 p9 : Pos}
theorem exc_make {u : Value} {Q : Value → Shared → Prop} {cdD : ClassData}
    (X : K.In hh) (G : hh.Ns mainGlobals mg) (Bn : hh.Ns builtinsNs mb) (hbb : ∀ x : Str, x ≠ "__name__" → mb x = bootBuiltins x) (lim : hh.NoLimit) (hsuper : mg "super" = none)
    (q : excInitIn K C veB "ValueError.__new__" = true) (hi : findIn K (.ref C) "__init__" = some (some (.ref fI))) (hf : isFn K (.ref fI) = true)
    (lk : K.lookup fI = some ⟨oc, od, .func (ksFn "__init__" qual params (excBody txt fld p0 p1 p2 p3 p4 p5 p6 p7 p8 p9) scope dV kV doc pm an (.ref cda) ct cc), osl⟩)
    (hcd : codeIn K (.ref cda) qual = true) (hcode : K.lookup cda = some ⟨ccl, cdd, .fields vs, ccs⟩) (hvs : vs[2]? = some (.str file tf)) (hfile : ((prog.main.file : Str) == file) = true)
    (hcell : K.lookup cc = some ⟨cl, cld, .cell (some (.ref C)), csl⟩) (hD : clsIn K C = some cdD) (hsub : mroIn K C (.ref C) = some true)
    (hp : (params.posonlyargs ++ params.args).head? = some ar) (har : ar.arg = "self")
    (hbind : ∀ a b : Value, bindArgs (ksFn "__init__" qual params (excBody txt fld p0 p1 p2 p3 p4 p5 p6 p7 p8 p9) scope dV kV doc pm an (.ref cda) ct cc) ⟨[a, b], []⟩ = pure [(("self" : Str), a), (fld, b)])
    (htop : (prog.main.scope.names.lookup ("super" : Str)).isSome = false)
    (hnc : ∀ x ∈ scope.names, x.2 ≠ .cell) (hco : scope.isCoroutine = false) (hgen : scope.isGenerator = false) (hk : scope.kind = .function)
    (hks : scope.names.lookup ("super" : Str) = some .globalImplicit) (hkc : scope.names.lookup ("__class__" : Str) = some .free) (hka : scope.names.lookup ("self" : Str) = some .local) (hkf : scope.names.lookup fld = some .local)
    (hne : fld ≠ "self") (hdb : (fld == ("__debug__" : Str)) = false)
    (hm : ks_superIn K C C "__init__" = some (some (.builtin "ValueError.__init__"))) (hB : subIn K (.ref C) (.type "ValueError") = some true) (ho : nsIn K cStatics "thirdparty.any" = some none)
    (hs : findIn K (.ref C) "__setattr__" = some (some (.builtin "object.__setattr__"))) (hov : excOver K C veB = true) (ht : takerIn K C fld = some none) (hhd : hasDictIn K C = true)
    (hroom : (A.under (.builtin "type.__call__" ⟨[.ref C, u], []⟩)).depth < recursionLimit)
    (hev : ∀ env : Env, ∃ pl, eval (.Call (.Attribute (.Call (.Name "super" p0) [] [] p1) "__init__" p2) [.Constant (.str txt) 0 p3] [] p4) env = (do
      let ov ← attributeBase (.Call (.Name "super" p0) [] [] p1) "__init__" env (eval (.Call (.Name "super" p0) [] [] p1) env)
      standAt p2.atName
      let (f, first) ← holding [ov] (getMethod ov "__init__" pl)
      callWith p4 f first (backTo p4 (starEach [.Constant (.str txt) 0 p3] env)) []))
    (hq : ∀ (e t0 dx : Addr) (h' : Heap) (t' : Nat), (∀ b o, hh.get? b = some o → h'.get? b = some o) → hh.objs.size ≤ e → hh.objs.size ≤ dx → dx ≠ e →
      h'.get? e = some (excObj C t0 (some dx) .none) → (∃ hs : Int, ∃ tk, h'.get? dx = some (dictOf [⟨hs, .str fld tk, u⟩] 1)) → Q (.ref e) ⟨h', g, d, t', os⟩) :
    wpAny (model prog w) A (call (.ref C) [u]) Q E ⟨hh, g, d, t, os⟩ := by
  obtain ⟨nm, N', qn, bs, bm, hdct, sn, sub, ab, col, dd, k0, k1, k2, k3, k5, hC, hT⟩ := excInit_of X q
  obtain ⟨oI, hoI, hcI⟩ : ∃ oI, hh.get? fI = some oI ∧ oI.cls = .type "function" := by
    obtain ⟨o, ho, hc⟩ := Option.map_eq_some_iff.mp (show (K.lookup fI).map (·.cls) = some (.type "function") from beq_iff_eq.mp hf)
    exact ⟨o, X _ _ ho, hc⟩
  have hi' : Looks (model prog w) hh (typeLookup (.ref C) "__init__") (some (.ref fI)) := looks_findIn X hi
  have one : ([u] : List Value).length ≤ sizeLine := by rw [sizeLine_eq]; show 1 ≤ _; omega
  refine wpAny_call (PX.call_own F.excBase_ValueError hT hC hi' (fun self => exc_bind hoI hcI self) one ?_)
  have kk : ∀ b o, hh.get? b = some o → ((hh.push (kdv_tup [u])).push (PX.excO C hh.objs.size)).get? b = some o := fun b o e => Heap.get?_push_of_some _ (Heap.get?_push_of_some _ e)
  have he0 : ((hh.push (kdv_tup [u])).push (PX.excO C hh.objs.size)).get? (hh.objs.size + 1) = some (excObj C hh.objs.size none .none) := by heap_get
  refine ks_codeAny_call_defAt (binds := [(("self" : Str), .ref (hh.objs.size + 1)), (fld, u)]) (body := excBody txt fld p0 p1 p2 p3 p4 p5 p6 p7 p8 p9) hroom (X.keeps kk _ _ lk) rfl (lim.keeps kk) (codeRec_of (X.keeps kk) hcd) rfl (.of_eq (hbind _ _)) hnc (fun y hy => ?_) (fun h₁ hns hk₁ => ?_) hco hgen hk
  · rcases List.mem_cons.mp hy with rfl | hy
    · exact hka
    · rcases List.mem_cons.mp hy with rfl | hy
      · exact hkf
      · cases hy
  have F1 : PyProof.Rows.Fr hh ((hh.push (kdv_tup [u])).push (PX.excO C hh.objs.size)).objs.size h₁ (fun x => [(("self" : Str), Value.ref (hh.objs.size + 1)), (fld, u)].reverse.lookup x) :=
    ⟨hns, fun b o e => hk₁ b o (kk b o e), by rw [Heap.size_push, Heap.size_push]; exact Nat.le_trans (Nat.le_succ _) (Nat.le_succ _)⟩
  have N1 : News hh ((hh.push (kdv_tup [u])).push (PX.excO C hh.objs.size)).objs.size h₁ [(hh.objs.size + 1, excObj C hh.objs.size none .none)] := fun p hp => by
    rcases List.mem_cons.mp hp with rfl | hp
    · refine ⟨hk₁ _ _ he0, by rw [Heap.size_push, Heap.size_push]; exact Nat.ne_of_lt (Nat.lt_succ_self _), ?_⟩
      cases z : hh.get? (hh.objs.size + 1) with
      | none => rfl
      | some o => exact absurd (Heap.lt_size z) (Nat.not_lt.mpr (Nat.le_succ _))
    · cases hp
  generalize hL : ((hh.push (kdv_tup [u])).push (PX.excO C hh.objs.size)).objs.size = L at F1 N1 ⊢
  have vself : [(("self" : Str), Value.ref (hh.objs.size + 1)), (fld, u)].reverse.lookup ("self" : Str) = some (Value.ref (hh.objs.size + 1)) := by
    have : (("self" : Str) == fld) = false := by
      simp only [beq_eq_false_iff_ne, ne_eq]
      exact fun z => hne z.symm
    show List.lookup _ [(fld, u), (("self" : Str), Value.ref (hh.objs.size + 1))] = _
    rw [List.lookup_cons, this]
    rfl
  have vfld : [(("self" : Str), Value.ref (hh.objs.size + 1)), (fld, u)].reverse.lookup fld = some u := by
    show List.lookup _ [(fld, u), (("self" : Str), Value.ref (hh.objs.size + 1))] = _
    rw [List.lookup_cons, beq_self_eq_true]
  generalize hm0 : (fun x => [(("self" : Str), Value.ref (hh.objs.size + 1)), (fld, u)].reverse.lookup x) = m at F1
  have ms : m "self" = some (Value.ref (hh.objs.size + 1)) := by rw [← hm0]; exact vself
  have mf : m fld = some u := by rw [← hm0]; exact vfld
  have I1 : InstAt h₁ (hh.objs.size + 1) (excObj C hh.objs.size none .none) C none := ⟨(N1 _ List.mem_cons_self).1, rfl, rfl, trivial⟩
  obtain ⟨pl, hev⟩ := hev (callEnv (ksFn "__init__" qual params (excBody txt fld p0 p1 p2 p3 p4 p5 p6 p7 p8 p9) scope dV kV doc pm an (.ref cda) ct cc) L fI)
  have hint : interactive (callEnv (ksFn "__init__" qual params (excBody txt fld p0 p1 p2 p3 p4 p5 p6 p7 p8 p9) scope dV kV doc pm an (.ref cda) ct cc) L fI) = false := by
    show (scope.kind == .module && _) = false
    rw [hk]
    rfl
  refine ks_wpAt_execs_cons (ks_wpAt_Expr_any (ks_wpAt_MethodCall (pl := pl) ?_ hev) hint)
  obtain ⟨oD, hD1, hD2⟩ : ∃ oD, h₁.get? C = some oD ∧ oD.data = .cls cdD := by
    unfold clsIn at hD
    split at hD
    · rename_i c d cd' sl ho
      cases hD
      exact ⟨_, X.keeps F1.keep _ _ ho, rfl⟩
    · cases hD
  have X1 : K.In h₁ := X.keeps F1.keep
  refine ks_wpAt_super_base (env := callEnv (ksFn "__init__" qual params (excBody txt fld p0 p1 p2 p3 p4 p5 p6 p7 p8 p9) scope dV kV doc pm an (.ref cda) ct cc) L fI) hks hkc rfl rfl (X1 _ _ lk) rfl hp rfl (X1 _ _ hcode) rfl hvs hfile htop ?_
  refine ks_loadName_global hk hks (loadGlobal_builtin (env := callEnv (ksFn "__init__" qual params (excBody txt fld p0 p1 p2 p3 p4 p5 p6 p7 p8 p9) scope dV kV doc pm an (.ref cda) ct cc) L fI) (G.keeps F1.keep) hsuper (Bn.keeps F1.keep) ((hbb _ (by decide +kernel)).trans (by rfl)) ⟨rfl, ?_⟩)
  refine wpAny_loadName_free hk hkc rfl ⟨_, X1 _ _ hcell, rfl⟩ ?_
  rw [har]
  refine wpAny_loadName_local hk hka F1.ns ms ?_
  refine ks_wpAny_isType_cls hD1 hD2 ⟨rfl, ?_⟩
  refine ks_wpAny_call_super hD1 hD2 I1.at_ I1.cls (fun c e => by cases e) (looks_mroIn X1 hsub) (fun h2 e2 k2 => ?_)
  obtain ⟨F2, N2, l2⟩ := ks_newsPush (s := ⟨h₁, g, d, t + 2, os⟩) F1 N1 rfl e2 k2
  refine kxs_method (K := K) (C := C) (D := C) (odx := none) kxs_ValueError F2 X N2 List.mem_cons_self ⟨(N2 _ (List.mem_cons_of_mem _ List.mem_cons_self)).1, rfl, rfl, trivial⟩ ho hm hB rfl (fun q3 h3 F3 N3 l3 => ?_)
  refine kxs_callWith1 N3 List.mem_cons_self ?_
  show wpAny _ _ (spliced ((false, eval (.Constant (.str txt) 0 p3) _) :: backTo p4 (starEach [] _))) _ _ _
  refine spliced_cons (Constant_str (k := 0) (pos := p3) (spliced_nil ⟨kxs_at N3 List.mem_cons_self, ?_⟩))
  have ne1 := l3 _ (List.mem_cons_of_mem _ List.mem_cons_self)
  have ne2 := l2 _ List.mem_cons_self
  refine kxs_call (C := C) (t := hh.objs.size) (dv := none) (c2 := .none) F3 X N3 F.excBase_ValueError q List.mem_cons_self
    (.tail (Nat.ne_of_gt ne1) (.tail (Nat.ne_of_gt ne2) (.head fun p hp => nomatch hp))) (by rw [sizeLine_eq]; show 1 ≤ _; omega) (fun t4 h4 F4 N4 l4 => ?_)
  refine ks_wpAt_execs_cons (ks_wpAt_Assign_Attr ?_)
  refine wpAt_of_wpAny (ESX.ldL F4.ns mf ?_ hk hkf hdb)
  refine ESX.ldL F4.ns ms ?_ hk hka rfl
  have ne3 := l4 _ (List.mem_cons_of_mem _ (List.mem_cons_of_mem _ List.mem_cons_self))
  refine set_exc0 (C := C) (t := t4) (c2 := .none) (es' := [⟨_, _, u⟩]) (n' := 1) F.store_ValueError F4 X N4 (List.mem_cons_of_mem _ (List.mem_cons_of_mem _ (List.mem_cons_of_mem _ List.mem_cons_self))) hs hov ht hhd rfl
    (.tail (Nat.ne_of_gt ne3) (.tail (Nat.ne_of_gt ne1) (.tail (Nat.ne_of_gt ne2) (.head fun p hp => nomatch hp)))) (by show 1 ≤ 1000; omega) (fun dx h5 F5 N5 l5 => ?_)
  refine wpAt_of_wpAny (wpAny_execs_nil ⟨rfl, ?_⟩)
  refine hq _ t4 dx h5 _ F5.keep (Nat.le_succ _) ?_ ?_ (N5 _ (List.mem_cons_of_mem _ (List.mem_cons_of_mem _ (List.mem_cons_of_mem _ (List.mem_cons_of_mem _ List.mem_cons_self))))).1 ⟨_, _, (N5 _ List.mem_cons_self).1⟩
  · exact Nat.le_of_lt (Nat.lt_trans (Nat.lt_succ_self _) (l5 _ (List.mem_cons_of_mem _ (List.mem_cons_of_mem _ (List.mem_cons_of_mem _ List.mem_cons_self)))))
  · exact Nat.ne_of_gt (l5 _ (List.mem_cons_of_mem _ (List.mem_cons_of_mem _ (List.mem_cons_of_mem _ List.mem_cons_self))))
end
/-- the class at C makes exceptions with the field fld -/
structure ExF (K : Frag) (C : Addr) : Prop where
  cs : (clsIn K C).isSome = true
  exC : subIn K (.ref C) (.type "BaseException") = some true
  tyC : typeIn K (.ref C) = some (.type "type")
  kp : keepIn K (.ref C) = true
  ga : findIn K (.ref C) "__getattribute__" = some (some (.builtin "BaseException.__getattribute__"))
  gg : findIn K (.ref C) "__getattr__" = some none
  hd : hasDictIn K C = true
  cl : findIn K (.ref C) "__class__" = some (some (.builtin "object.__class__"))
  cg : specialIn K (.builtin "object.__class__") "__get__" = some (some (.builtin "getset_descriptor.__get__"))
  ct : takesIn K (.builtin "object.__class__") = some true
  mo : mroIn K C (.type "object") = some true
structure Ex (P : Program) (K : Frag) (mg : Str → Option Value) (C : Addr) (fld : Str) : Prop extends ExF K C where
  make : ∀ {w : World} {A : Around} {E : Value → Shared → Prop} {hh : Heap} {g : Array GenState} {d : Drawn} {t : Nat} {os : OsState} {mb : Str → Option Value} {u : Value} {Q : Value → Shared → Prop},
    K.In hh → hh.Ns mainGlobals mg → hh.Ns builtinsNs mb → (∀ x : Str, x ≠ "__name__" → mb x = bootBuiltins x) → hh.NoLimit → (A.under (.builtin "type.__call__" ⟨[.ref C, u], []⟩)).depth < recursionLimit →
    (∀ (e t0 dx : Addr) (h' : Heap) (t' : Nat), (∀ b o, hh.get? b = some o → h'.get? b = some o) → hh.objs.size ≤ e → hh.objs.size ≤ dx → dx ≠ e →
      h'.get? e = some (excObj C t0 (some dx) .none) → (∃ hs : Int, ∃ tk, h'.get? dx = some (dictOf [⟨hs, .str fld tk, u⟩] 1)) → Q (.ref e) ⟨h', g, d, t', os⟩) →
    wpAny (model P w) A (call (.ref C) [u]) Q E ⟨hh, g, d, t, os⟩
  no : findIn K (.ref C) fld = some none
end We

namespace Wt
open PySem PySem.Spec PyProof.Rows L2
theorem ns1_one {h : Heap} {a : Addr} {fld : Str} {hs : Int} {tk : Tok} {u : Value} (e : h.get? a = some (PySem.W.dictOf [⟨hs, .str fld tk, u⟩] 1)) :
    h.Ns1 a fun y => if y = fld then some u else none := by
  refine ⟨_, #[⟨hs, .str fld tk, u⟩], 1, e, rfl, fun en hen => ?_, by simp [UniqKeys], fun name => ?_⟩
  · have : en = ⟨hs, .str fld tk, u⟩ := by simpa using hen
    subst this
    exact ⟨_, _, rfl⟩
  · unfold nsFind findBy
    by_cases z : name = fld
    · subst z
      simp [Value.isStr]
    · have z2 : fld ≠ name := fun y => z y.symm
      simp [Value.isStr, z, z2]
/-- C(e) -/
def tMkX (C : Addr) (fld : Str) (te : TE) : L2.St → Hp → XK → Prop := fun σ H Q => te σ H fun v H1 => ∀ dx, H1 dx = none → Q (.ref C) (some dx) (upd H1 dx (.xd [(fld, v)]))
/-- a caught exception, known from now on -/
def exh (a : Addr) (cls : Value) (d : Option Addr) : HO := .ext fun h => ∃ oe vs, h.get? a = some oe ∧ Zc cls d oe ∧ oe.data = .fields vs
theorem exh_ok {P : Program} {w : World} {H : Hp} {h : Heap} {a : Addr} {cls : Value} {d : Option Addr} {oe : Obj} {vs : Array Value} (e : h.get? a = some oe) (z : Zc cls d oe) (f : oe.data = .fields vs) : ObjOk P w H h a (exh a cls d) :=
  ⟨⟨oe, vs, e, z, f⟩, ⟨oe, e⟩, fun h1 h2 q k => by
    obtain ⟨o, v, q1, q2⟩ := q
    exact ⟨o, v, k _ q1, q2⟩⟩
theorem exh_at {P : Program} {w : World} {H : Hp} {h : Heap} {a : Addr} {cls : Value} {d : Option Addr} (hok : HOk P w H h) (e : H a = some (exh a cls d)) : ∃ oe vs, h.get? a = some oe ∧ Zc cls d oe ∧ oe.data = .fields vs := by
  have x : ObjOk P w H h a (.ext fun h => ∃ oe vs, h.get? a = some oe ∧ Zc cls d oe ∧ oe.data = .fields vs) := hok a _ e
  exact x.1
section
variable {X : Cx} {x : Str} {C : Addr} {fld : Str} {e : Expr} {te : TE} {p pos : Pos} {k : Nat}
theorem pmk_ex (T : We.Ex X.prog X.K X.mg C fld) (hr : Room k X.A) (hg : Gl X x) (hm : X.mg x = some (.ref C)) (he : PE X e te)
    (hs : starEach [e] X.env = (false, eval e X.env) :: starEach [] X.env := by rfl) (hdb : (x == ("__debug__" : Str)) = false := by decide) :
    PMk X (.Call (.Name x p) [e] [] pos) (tMkX C fld te) := by
  intro pins s σ H Q I h
  refine wpAny_Call_Name_kw (ld_glob I hg hm ?_ hdb)
  refine PySem.W.callWith_K (h₀ := X.base) I.ok.mod.kin T.kp ?_ hs (by rfl)
  rw [hs]
  show wpAny _ _ (spliced ((false, eval e X.env) :: backTo pos (starEach [] X.env))) _ _ s
  refine Calls.spliced_cons (thn (he.run pins s σ H _ I h) fun u s1 ⟨v, H1, I1, r1, q1⟩ => ?_)
  refine Calls.spliced_nil ⟨I1.kIn, ?_⟩
  show wpAny _ _ (call (.ref C) [u]) _ _ _
  obtain ⟨hp, g, d, tk, os⟩ := s1
  obtain ⟨mb, Bn, hbb⟩ := I1.mod.blt
  refine T.make I1.kIn (I1.mod.glob.keeps I1.bk) (Bn.keeps I1.bk) hbb I1.nolimit (by rw [make_depth]; have := hr.dp; omega) fun a t0 dx h' t' kk ha hdx ne1 hE ⟨hsh, tkk, hD⟩ => ?_
  obtain ⟨G, g1, g2⟩ := restrict h' fun b => decide (b ≠ a)
  have gk : ∀ b, b ≠ a → G.get? b = h'.get? b := fun b hb => g1 b (decide_eq_true hb)
  have ge : G.get? a = none := g2 a (by simp)
  have kg : ∀ b o, hp.get? b = some o → G.get? b = some o := fun b o z => by
    rw [gk b (Nat.ne_of_lt (Nat.lt_of_lt_of_le (Heap.lt_size z) ha))]
    exact kk b o z
  have hn : H1 a = none := I1.hok.fresh ha
  have J : Inv X pins σ (upd H1 dx (.xd [(fld, v)])) ⟨G, g, d, t', os⟩ :=
    I1.laid (t' := t') (a := dx) (o := .xd [(fld, v)]) (h' := G) kg hdx ⟨_, ns1_one ((gk dx ne1).trans hD), fun f => by
      rw [lookup_put]
      by_cases z : f = fld
      · rw [if_pos z, if_pos z]
        exact r1
      · rw [if_neg z, if_neg z]
        exact True.intro⟩
  exact ⟨a, _, _, ⟨G, g, d, t', os⟩, _, .ref C, some dx, rfl, J, fun b o z => by
      by_cases hb : b = a
      · rw [hb, ge] at z
        cases z
      · exact (gk b hb).symm.trans z, ge, hE, ⟨rfl, rfl⟩, rfl, rfl, by rw [upd_ne (Ne.symm ne1)]; exact hn, rfl, I1.bare, raises_own T.exC T.tyC, q1 dx (I1.hok.fresh hdx)⟩
end
/-- what the clause wishes of an exception of the body -/
def wKn (K : PySem.W.Frag) (c : Value) (i : Nat) (ts : TS) (Wout : WX) (D : Ends) : WX := fun cls d σ H =>
  ∃ b, PySem.W.exmOne K cls c = some b ∧ (b = true → ∀ a, H a = none → ts { nx := fun σ' H' => D.nx (σ'.set i none) H', rt := D.rt, bk := fun σ' H' => D.bk (σ'.set i none) H', ct := fun σ' H' => D.ct (σ'.set i none) H' } (σ.set i (some (.ref a))) (upd H a (exh a cls d))) ∧
    (b = false → Wout cls d σ H)
section
variable {X : Cx} {pins : List (Addr × Obj)} {σ : L2.St} {H : Hp} {s : Shared}
theorem Inv.known (I : Inv X pins σ H s) {a : Addr} {cls : Value} {d : Option Addr} {oe : Obj} {vs : Array Value} (ha : s.heap.get? a = some oe) (z : Zc cls d oe) (f : oe.data = .fields vs) (na : H a = none) (nL : a ≠ X.env.locals) (n0 : X.s_0.heap.get? a = none)
    (np : ∀ p ∈ X.pn ++ pins, p.1 ≠ a) : Inv X pins σ (upd H a (exh a cls d)) s := by
  have hne : ∀ {b : Addr} {o : HO}, H b = some o → b ≠ a := fun {b o} e z => by rw [z, na] at e; cases e
  have u : Un X.fs X.ex X.H_0 (upd H a (exh a cls d)) X.s_0.heap s.heap := ⟨I.base.keep, I.base.slot, fun b o e n hx => by
    have : b ≠ a := fun z => by rw [z, n0] at e; cases e
    rw [upd_ne this]
    exact I.base.free b o e n hx, I.base.there, fun b xs e => by
      have := I.base.tups b xs e
      rw [upd_ne (hne this)]; exact this, fun b o v e => by
      have := I.base.frzs b o v e
      rw [upd_ne (hne this)]; exact this, fun b ps e => by
      obtain ⟨m, q⟩ := I.base.tbls b ps e
      exact ⟨m, by rw [upd_ne (hne q)]; exact q⟩⟩
  refine ⟨I.ok, I.os, I.bare, u, I.loc, I.cell, by rw [upd_ne (Ne.symm nL)]; exact I.free, fun y c e => ?_, fun p hp => ?_, fun b o e => ?_, I.len⟩
  · have : c ≠ a := fun z => by
      obtain ⟨v, o, ho, hd⟩ := I.cell y c e
      rw [z, ha] at ho; cases ho
      rw [f] at hd; cases hd
    rw [upd_ne this]
    exact I.freeC y c e
  · obtain ⟨q1, q2, q3⟩ := I.pin p hp
    exact ⟨q1, by rw [upd_ne (np p hp)]; exact q2, q3⟩
  · by_cases hb : b = a
    · subst hb
      rw [upd_same] at e
      cases e
      exact exh_ok ha z f
    · rw [upd_ne hb] at e
      exact (I.hok b o e).stay (fun _ _ _ q => q) (fun c q => by rw [upd_ne (hne q)]; exact q) fun c xs q => by rw [upd_ne (hne q)]; exact q
/-- the context of an except suite whose exception is known -/
abbrev suK (X : Cx) (a : Addr) (pn : List (Addr × Obj)) : Cx := { X with A := X.A.mark (some (.ref a)), calm := false, pn := pn, xe := fun _ _ => False }
theorem suK_ok {X : Cx} (ok : X.Ok) (a : Addr) (pn : List (Addr × Obj)) : (suK X a pn).Ok :=
  ⟨ok.mod, ok.kind, ok.glob, ok.blt, ok.above, ok.inj, ok.has, ok.cab, (fun z => absurd (show false = true from z) Bool.false_ne_true), ok.frames, ok.stk, ok.exf, ok.bs, ok.bsz, ok.noex, ok.exfs, ok.funs, ok.frf⟩
theorem toSuK (I : Inv X pins σ H s) (a : Addr) : Inv (suK X a (X.pn ++ pins)) [] σ H s :=
  ⟨suK_ok I.ok _ _, I.os, I.bare, I.base, I.loc, I.cell, I.free, I.freeC, fun p hp => I.pin p (by rw [List.append_nil] at hp; exact hp), I.hok, I.len⟩
theorem ofSuK {a : Addr} {pn' : List (Addr × Obj)} (I : Inv (suK X a (X.pn ++ pins)) pn' σ H s) (ok : X.Ok) : Inv X pins σ H s :=
  ⟨ok, I.os, I.bare, I.base, I.loc, I.cell, I.free, I.freeC, fun p hp => I.pin p (List.mem_append_left _ hp), I.hok, I.len⟩
end
section
variable {X : Cx} {x n : Str} {c : Value} {i : Nat} {body suite : List Stmt} {b₀ : Stmt} {np pos pos' : Pos} {tb : WX → TS} {ts : TS} {Wout : WX}
theorem ps_tryK (hs : X.stack = X.env :: X.outer) (hf : X.env.frame = some X.env.locals) (hex : X.ex = []) (hN : X.N.Nodup) (hi : X.N[i]? = some n) (hln : X.env.kindOf n = some .local) (hc : Names X x c) (tk : Takes X Wout)
    (hb : ∀ (W : WX) (pn : List (Addr × Obj)) (xe : Value → Shared → Prop), Takes (X.tr pn xe) W → PassesOwn (model X.prog X.w) X.A X.env xe → PSs (X.tr pn xe) body (tb W))
    (hsu : ∀ (a : Addr) (pn : List (Addr × Obj)), PSs (suK X a pn) (b₀ :: suite) ts) :
    PS X (.Try body [.ExceptHandler (some (.Name x np)) (some n) (b₀ :: suite) pos'] [] [] pos) (fun D σ H => tb (wKn X.K c i ts Wout D) D σ H) := by
  refine ⟨fun pins s σ H D I h => ?_⟩
  have ok := I.ok
  have hfr : X.A.frames = some (X.env :: X.outer) := by rw [ok.frames, hs]
  have hloc : Loc X.env.scope n := .inl hln
  refine wpAny_Try_except ?_
  refine wpAny_mono ((hb (wKn X.K c i ts Wout D) (X.pn ++ pins) (fun e s₁ => wpAny (model X.prog X.w) X.A (noteFrame e X.env) (fun _ s₂ => wpAny (model X.prog X.w) X.A (setFlight e none) (fun _ s₃ =>
    wpAny (model X.prog X.w) X.A (handleBy e X.env [.ExceptHandler (some (.Name x np)) (some n) (b₀ :: suite) pos']) (SP X pins D) X.xe s₃) X.xe s₂) X.xe s₁) (fun u s' xx => ?_) PassesOwn.looking).run [] s σ H D (I.toTry _) h) (fun f s1 hsp => ?_) (fun e s1 he => he)
  · obtain ⟨a, B, sI, pins', σ', H', cls, d, rfl, J', nb, up, sky, na, os, ag, b, hb1, hyes, hno⟩ := xx
    have J : Inv X pins σ' H' sI := J'.ofTry ok
    have sky' : Sky B (X.env :: X.outer) a (Zc cls d) X.env.locals s'.heap := by rw [← hs]; exact sky
    show wpAny (model X.prog X.w) X.A (noteFrame (.ref a) X.env) _ _ _
    refine Sky.land Zc.steady hfr hf sky' fun h3 fl3 up3 => ?_
    have J3 : Inv X pins σ' H' { s' with heap := h3 } := J.landed nb fl3.1 (up.trans up3) os ag
    obtain ⟨oe3, vs3, he3, hz3, hd3⟩ := fl3.there
    have notFr : ∀ {h : Heap} {o : Obj} {vs : Array Value}, h.FunFrames B (X.env :: X.outer) → h.get? a = some o → o.data = .fields vs → a ∉ frs (X.env :: X.outer) := fun {h o vs} ff e dd hm => by
      obtain ⟨_, o', e', hnf⟩ := ff.mem hm
      rw [e] at e'; cases e'
      exact hnf _ dd
    have nfr := notFr fl3.2.2.1 he3 hd3
    have nL : a ≠ X.env.locals := fun z => nfr (List.mem_filterMap.mpr ⟨X.env, List.mem_cons_self, by rw [hf, z]⟩)
    have nF : a ∉ X.fs := fun hm => by
      obtain ⟨e, he, q⟩ := List.mem_filterMap.mp hm
      exact nfr (List.mem_filterMap.mpr ⟨e, List.mem_cons_of_mem _ he, q⟩)
    have nI : sI.heap.get? a = none := by
      cases z : sI.heap.get? a with
      | none => rfl
      | some o =>
        have y := nb a o z (by rw [show frs (X.tr (X.pn ++ pins) _).stack = frs X.stack from rfl, hs]; exact nfr)
        rw [fl3.2.1] at y
        cases y
    have n0 : X.s_0.heap.get? a = none := by
      cases z : X.s_0.heap.get? a with
      | none => rfl
      | some o =>
        obtain ⟨o', y⟩ := J.base.there a o z (by rw [hex]; exact List.not_mem_nil)
        rw [nI] at y
        cases y
    have np' : ∀ p ∈ X.pn ++ pins, p.1 ≠ a := fun p hp z => by
      have y := (J.pin p hp).1
      rw [z, nI] at y
      cases y
    have S3 := J3.suite he3 hd3 na nL nF
    refine wpAny_handleBy_cons (codeAny_handlers_test ?_) (by intro q; cases q)
    have LT : PySem.W.Looks (model X.prog X.w) h3 (typeOf (.ref a)) cls := fun A Q E s k q => wpAny_typeOf_ref (k _ _ he3) (by rw [hz3.1]; exact q)
    have LM := PySem.W.exm_one (M := model X.prog X.w) (J3.kIn) LT hb1
    have test : ∀ {Q : Value → Shared → Prop} {E : Value → Shared → Prop}, Q c { s' with heap := h3 } → wpAny (model X.prog X.w) (X.A.mark (some (.ref a))) (eval (.Name x np) X.env) Q E { s' with heap := h3 } := fun {Q E} q => by
      obtain ⟨hg, hdbg, hm | ⟨hm, hv, hnn⟩⟩ := hc
      · exact ld_glob (X := X.suite a ((a, oe3) :: (X.pn ++ pins))) S3 hg hm q hdbg
      · exact ld_blt (X := X.suite a ((a, oe3) :: (X.pn ++ pins))) S3 hg hm hv q hnn hdbg
    refine test (LM.here ?_)
    cases b with
    | true =>
      refine codeAny_handlers_suite_as ?_
      refine HandSPX.lands_againZ fl3 fun h4 fl4 up4 => ?_
      have J4 : Inv X pins σ' H' { s' with heap := h4 } := J.landed nb fl4.1 ((up.trans up3).trans up4) os ag
      obtain ⟨oe4, vs4, he4, hz4, hd4⟩ := fl4.there
      have S4 := toSuK (Inv.known J4 he4 hz4 hd4 na nL n0 np') a
      refine store_ok (X := suK X a (X.pn ++ pins)) (v := .ref a) S4 hN hi hloc rfl (fun s5 S5 => ?_) (.inr hln)
      refine wpAny_mono ((hsu a (X.pn ++ pins)).run [] s5 _ _ _ S5 (hyes rfl a na)) (fun f s6 hsp => ?_) (fun _ _ z => False.elim z)
      have end_ : ∀ {σ6 : L2.St} {H6 : Hp} {Q : Shared → Prop}, Inv (suK X a (X.pn ++ pins)) [] σ6 H6 s6 → (∀ s7, Inv X pins (σ6.set i none) H6 s7 → Q s7) →
          wpAny (model X.prog X.w) X.A (do bindName X.env n .none; unbindBehindTheSuite X.env n pos') (fun _ s7 => Q s7) X.xe s6 := fun {σ6 H6 Q} S6 hq => gone_ok (ofSuK S6 ok) hN hi hln hq
      cases f with
      | next =>
        obtain ⟨σ6, H6, S6, q6⟩ := hsp
        exact end_ S6 fun s7 J7 => ⟨_, _, J7, q6⟩
      | brk =>
        obtain ⟨σ6, H6, S6, q6⟩ := hsp
        exact end_ S6 fun s7 J7 => ⟨_, _, J7, q6⟩
      | cont =>
        obtain ⟨σ6, H6, S6, q6⟩ := hsp
        exact end_ S6 fun s7 J7 => ⟨_, _, J7, q6⟩
      | ret u =>
        obtain ⟨v6, σ6, H6, S6, r6, q6⟩ := hsp
        exact end_ S6 fun s7 J7 => ⟨_, _, _, J7, r6, q6⟩
    | false =>
      show wpAny _ X.A (handleBy (.ref a) X.env []) _ _ _
      refine wpAny_handleBy_nil ?_
      obtain ⟨k1, k2, k3, oe, vs, T, oT, ts', he, hz, hd, h1, hr⟩ := id fl3
      unfold PySem.passOn
      refine wpAny_bind (wpAny_field he hd h1 ?_)
      rw [if_neg (show ¬ ((Value.ref T == Value.none) = true) from by simp)]
      have fin : wpAny (model X.prog X.w) X.A (setFlight (.ref a) X.env.frame) (fun _ s4 => wpAny (model X.prog X.w) X.A (throw (.ref a) : Sem Flow) (SP X pins D) X.xe s4) X.xe { s' with heap := h3 } := by
        rw [hf]
        refine HandSPX.setFlight_upZ fl3 fun h4 hh4 up4 => wpAny_throw (tk _ _ ?_)
        exact ⟨a, B, sI, pins', σ', H', cls, d, rfl, J'.ofTry ok |>.pins_of (fun p hp => by
          exact J'.pin p (List.mem_append_right _ hp)), nb, (up.trans up3).trans up4, .inr (.inr (by rw [hs]; exact hh4)), na, os, ag, hno rfl⟩
      first
        | exact wpAny_bind (wpAny_pure (wpAny_bind fin))
        | exact wpAny_bind fin
  · cases f with
    | next =>
      obtain ⟨σ', H', J', q⟩ := hsp
      exact wpAny_execs_nil ⟨σ', H', J'.ofTry ok, q⟩
    | brk =>
      obtain ⟨σ', H', J', q⟩ := hsp
      exact ⟨σ', H', J'.ofTry ok, q⟩
    | cont =>
      obtain ⟨σ', H', J', q⟩ := hsp
      exact ⟨σ', H', J'.ofTry ok, q⟩
    | ret u =>
      obtain ⟨v, σ', H', J', r, q⟩ := hsp
      exact ⟨v, σ', H', J'.ofTry ok, r, q⟩
end
end Wt

namespace Wt
open PySem PySem.Spec PyProof.Rows L2
/-- what a def that may refuse does -/
inductive Out where
  | ret (d : D)
  | exc (C : Addr) (f : Str) (d : D)
def SpE (K : PySem.W.Frag) (pre : List D → Prop) (R : List D → Out → Prop) : Sp :=
  fun vs H Q E => ∃ B ds, SameB B H ∧ IsAll K B vs ds ∧ pre ds ∧
    (∀ d v B2 H2, R ds (.ret d) → Same B B2 → SameN H H2 → SameB B2 H2 → (∀ a, H a ≠ none → B a = none → B2 a = none) → Is K B2 v d → Q v H2) ∧
    ∀ C f d v dd B2 H2, R ds (.exc C f d) → Same B B2 → SameN H H2 → SameB B2 H2 → (∀ a, H a ≠ none → B a = none → B2 a = none) →
      B2 dd = some (.xd [(f, v)]) → Is K B2 v d → E (.ref C) (some dd) H2
section
variable {P : Program} {w : World} {K : PySem.W.Frag} {mg : Str → Option Value} {base : Heap}
theorem okE {x qual : Str} {st : Stmt} {f : Addr} {fd : FuncData} {N ps : List Str} {k : Nat} {sp : Sp} (F : Fun K x qual st f fd) (S : FnScope N ps (defScope st)) (len : ∀ vs H Q E, sp vs H Q E → vs.length = ps.length)
    (hbody : ∀ (cdv : Value) (A : Around) (outer : List Env) (s : Shared) (H : Hp) (vs : List V) (Q : VK) (E : XK), Room k (A.deeper (envOfC qual (defScope st) s.heap.objs.size f cdv)) → sp vs H Q E →
      ∃ t, PSs (cxOf (CX P w) P w K mg base N qual (defScope st) f cdv A outer s H E) (defBody st) t ∧ t { nx := fun _ H' => Q .non H', rt := Q } (start N vs) H) : FnOk P w K mg base (CX P w) (k + 1) f fd ps sp := by
  obtain ⟨oc, od, kV, doc, pm, an, cdv, ct, osl, rfl, lk, hcd⟩ := F.ex
  exact fn_of lk hcd S len fun A outer s H vs Q E hr hsp => hbody cdv A outer s H vs Q E hr hsp
end
theorem takes_no {X : Cx} : Takes X fun _ _ _ _ => False := fun u s' ⟨_, _, _, _, _, _, _, _, _, _, _, _, _, _, _, _, w⟩ => w.elim
/-- f(..) that may refuse -/
def tCallX (sp : Sp) (dvs : List V) (W : WX) (t : TA) : TE := fun σ H Q => t σ H fun vs H1 => sp (vs ++ dvs) H1 Q fun c d H' => W c d σ H'
section
variable {X : Cx} {k : Nat} {f : Addr} {fd : FuncData} {ps : List Str} {sp : Sp} {dvs : List V} {ds : List Value} {W : WX} {x : Str} {p pos : Pos} {e : Expr} {es : List Expr} {t : TA}
theorem pe_callX (F : FnOk X.prog X.w X.K X.mg X.base (CX X.prog X.w) k f fd ps sp) (hr : Room k X.A) (hg : Gl X x) (hm : X.mg x = some (.ref f)) (hk : PySem.W.keepIn X.K (.ref f) = true)
    (hb : Binds X.K fd ps ds) (hd : Vals dvs ds) (tk : Takes X W) (ha : PA X (e :: es) t)
    (hdb : (x == ("__debug__" : Str)) = false := by decide) (he : starEach (e :: es) X.env = (false, eval e X.env) :: starEach es X.env := by rfl) (hpl : (backTo pos (starEach es X.env)).any (·.1) = false := by rfl) :
    PE X (.Call (.Name x p) (e :: es) [] pos) (tCallX sp dvs W t) := by
  constructor
  intro pins s σ H Q I h
  refine wpAny_Call_Name_kw (ld_glob I hg hm ?_ hdb)
  refine PySem.W.callWith_K (h₀ := X.base) I.ok.mod.kin hk (thn (ha.run pos pins s σ H _ I h) ?_) he hpl
  intro us s1 ⟨vs, H1, I1, r, q⟩
  refine ⟨I1.kIn, ?_⟩
  have r2 := r.append hd
  have hl : (us ++ ds).length = ps.length := r2.length.symm.trans (F.len _ _ _ _ q)
  have go := F.run X.A X.stack s1 H1 ⟨us, []⟩ _ _ Q (fun c d H' => W c d σ H') hr I1.env0 (hb s1 us I1.kIn hl) r2 q
  refine wpAny_call (codeAny_mono go fun res s' hq => ?_)
  match res, hq with
  | .error e, hq => exact tk _ _ (XE.of_call I1 (fun c d H' h => h) hq)
  | .ok (.ret u), hq => exact I1.after hq
  | .ok .next, hq => exact False.elim hq
  | .ok .brk, hq => exact False.elim hq
  | .ok .cont, hq => exact False.elim hq
end
def exR (K : PySem.W.Frag) (C : Addr) (f : Str) (d : D) : ObR := fun B a o => ∃ dd v, o = exh a (.ref C) (some dd) ∧ B dd = some (.xd [(f, v)]) ∧ Is K B v d
theorem exR_mono {K : PySem.W.Frag} {C : Addr} {f : Str} {d : D} : (exR K C f d).Mono := fun B1 B2 a o s ⟨dd, v, e, q1, q2⟩ => ⟨dd, v, e, s _ _ q1, q2.mono s⟩
/-- isinstance(e, c) -/
def rIsX (K : PySem.W.Frag) : List V → Hp → VK → Prop := fun xs H Q => ∃ (a C d : Addr) (fs : List (Str × V)) (c : V) (cv : Value) (b : Bool), xs = [.ref a, c] ∧ H a = some (exh a (.ref C) (some d)) ∧ H d = some (.xd fs) ∧ ClsV c cv ∧ We.ExF K C ∧ PySem.W.kitOne K (.ref C) cv = some b ∧ Q (.bl b) H
/-- isinstance(e, (c, ..)) -/
def rIsXT (K : PySem.W.Frag) : List V → Hp → VK → Prop := fun xs H Q => ∃ (a C d tp : Addr) (fs : List (Str × V)) (cs : List V) (us : List Value) (b : Bool), xs = [.ref a, .ref tp] ∧ H tp = some (.tup cs) ∧ H a = some (exh a (.ref C) (some d)) ∧ H d = some (.xd fs) ∧ Paired ClsV cs us ∧ We.ExF K C ∧ PySem.W.kitAny K (.ref C) us = some b ∧ Q (.bl b) H
/-- e.f -/
def tXfH (K : PySem.W.Frag) (f : Str) (te : TE) : TE := fun σ H Q => te σ H fun x H1 => ∃ (a C dd : Addr) (fs : List (Str × V)) (v : V), x = .ref a ∧ H1 a = some (exh a (.ref C) (some dd)) ∧ H1 dd = some (.xd fs) ∧ We.ExF K C ∧ PySem.W.findIn K (.ref C) f = some none ∧ fs.lookup f = some v ∧ Q v H1
section
variable {X : Cx} {pins : List (Addr × Obj)} {σ : L2.St} {H : Hp} {s : Shared}
theorem exh_inst (I : Inv X pins σ H s) {a C d : Addr} {fs : List (Str × V)} (ha : H a = some (exh a (.ref C) (some d))) (hd : H d = some (.xd fs)) :
    ∃ (oe od : Obj) (mA : Str → Option Value), PySem.W.InstAt s.heap a oe C (some od) ∧ (∀ name, PySem.W.lookIn name od = some (mA name)) ∧ ∀ f, RelO (fs.lookup f) (mA f) := by
  obtain ⟨oe, vs, h1, h2, h3⟩ := exh_at I.hok ha
  obtain ⟨mA, hns, hr⟩ := (show ObjOk X.prog X.w H s.heap d (.xd fs) from I.hok d _ hd)
  obtain ⟨od, ho, hl⟩ := lookIn_ns hns
  exact ⟨oe, od, mA, ⟨h1, h2.1, by unfold PySem.W.notCls; rw [h3] <;> rfl, by rw [h2.2]; exact ho⟩, hl, hr⟩
end
section
variable {X : Cx}
theorem call_isX : CallR X (.builtin "isinstance") (rIsX X.K) := by
  intro pins s σ H xs us Q I r h
  obtain ⟨a, C, d, fs, c, cv, b, rfl, ha, hd, hc, T, e, q⟩ := h
  obtain ⟨u1, u2, rfl, r1, r2⟩ := vals2 r
  cases (show u1 = Value.ref a from r1)
  have e2 := hc.eq r2
  subst e2
  obtain ⟨oe, od, mA, J, _, _⟩ := exh_inst I ha hd
  exact PySem.W.kia_one (PySem.W.kitx_exc T.cs T.ga T.gg T.exC T.cl T.cg T.ct T.mo) I.kIn J e (fun z => nomatch z) fun tk => ⟨.bl b, H, I.tok _, rfl, q⟩
theorem call_isXT : CallR X (.builtin "isinstance") (rIsXT X.K) := by
  intro pins s σ H xs us Q I r h
  obtain ⟨a, C, d, tp, fs, cs, ws, b, rfl, hT, ha, hd, hc, T, e, q⟩ := h
  obtain ⟨u1, u2, rfl, r1, r2⟩ := vals2 r
  cases (show u1 = Value.ref a from r1)
  cases (show u2 = Value.ref tp from r2)
  obtain ⟨_, its, rv, o, h1, h2, n, h3⟩ := (show ObjOk X.prog X.w H s.heap tp (.tup cs) from I.hok tp _ hT)
  have e3 := ClsV.all hc rv
  subst e3
  obtain ⟨oe, od, mA, J, _, _⟩ := exh_inst I ha hd
  obtain ⟨oc, odd, oda, osl⟩ := o
  dsimp only at h2 h3
  subst h2 h3
  exact PySem.W.kia_tup (PySem.W.kitx_exc T.cs T.ga T.gg T.exC T.cl T.cg T.ct T.mo) I.kIn J h1 e (fun z => nomatch z) fun tk => ⟨.bl b, H, I.tok _, rfl, q⟩
theorem pe_xfH {K : PySem.W.Frag} {e : Expr} {te : TE} {pos : Pos} {n : Str} (hK : X.K = K) (he : PE X e te) (hb : attributeBase e n X.env (eval e X.env) = eval e X.env := by rfl) :
    PE X (.Attribute e n pos) (tXfH K n te) := by
  subst hK
  refine ⟨fun pins s σ H Q I h => ?_⟩
  refine attr_of hb (thn (he.run pins s σ H _ I h) fun u s1 hh => ?_)
  obtain ⟨x, H1, I1, rx, a, C, dd, fs, v, rfl, ha, hd, T, hno, l, q⟩ := hh
  obtain rfl : u = Value.ref a := rx
  obtain ⟨oe, od, mA, J, hl, hr⟩ := exh_inst I1 ha hd
  obtain ⟨u, hu, ru⟩ := RelO.some_of (v := v) (o := mA n) (by rw [← l]; exact hr n)
  exact HandSPX.exc_get I1.kIn J T.ga T.gg T.exC (PySem.W.findObj_own T.hd hno rfl (by rw [hl, hu])) (handed_of ru) ⟨v, H1, I1.tok _, ru, q⟩
end
section
variable {K : PySem.W.Frag} {l : Option Addr} {ρ : Ro} {m : Nat} {W : WX}
variable {Φ : Nat → D → Prop} {Ψ : Nat → List D → Prop} {Ξ : Nat → Ro → Addr → Str → D → Prop} {te : TE} {ta tA : TA} {ts tu : TS} {tt : TT}
variable {Nx : Nat → Ro → Prop} {Rt : Nat → D → Prop}
/-- what is wanted where an exception leaves -/
def XkC (K : PySem.W.Frag) (l : Option Addr) (W : WX) (Z : Addr → Prop) (B H : Hp) (Ξ : Nat → Ro → Addr → Str → D → Prop) : Prop :=
  ∀ C f d v dd σ' ρ' m' B2 H2, Ok K l Z m' B2 H2 σ' ρ' → Fr Z B H B2 H2 → B2 dd = some (.xd [(f, v)]) → Is K B2 v d → Ξ m' ρ' C f d → W (.ref C) (some dd) σ' H2
theorem XkC.on {Z : Addr → Prop} {B H B1 H1 : Hp} (x : XkC K l W Z B H Ξ) (f1 : Fr Z B H B1 H1) : XkC K l W Z B1 H1 Ξ :=
  fun C f d v dd σ' ρ' m' B2 H2 o2 f2 => x C f d v dd σ' ρ' m' B2 H2 o2 (f1.trans f2)
def EvX (K : PySem.W.Frag) (l : Option Addr) (W : WX) (te : TE) (ρ : Ro) (m : Nat) (Φ : Nat → D → Prop) (Ξ : Nat → Ro → Addr → Str → D → Prop) : Prop :=
  ∀ Z B H σ (Q : VK), Ok K l Z m B H σ ρ → (∀ v d m' B2 H2, Ok K l Z m' B2 H2 σ ρ → Fr Z B H B2 H2 → Is K B2 v d → Φ m' d → Q v H2) → XkC K l W Z B H Ξ → te σ H Q
def AvX (K : PySem.W.Frag) (l : Option Addr) (W : WX) (ta : TA) (ρ : Ro) (m : Nat) (Ψ : Nat → List D → Prop) (Ξ : Nat → Ro → Addr → Str → D → Prop) : Prop :=
  ∀ Z B H σ (Q : List V → Hp → Prop), Ok K l Z m B H σ ρ → (∀ vs ds m' B2 H2, Ok K l Z m' B2 H2 σ ρ → Fr Z B H B2 H2 → IsAll K B2 vs ds → Ψ m' ds → Q vs H2) → XkC K l W Z B H Ξ → ta σ H Q
def SvX2 (K : PySem.W.Frag) (l : Option Addr) (W : WX) (ts : TS) (ρ : Ro) (m : Nat) (Nx : Nat → Ro → Prop) (Rt : Nat → D → Prop) (Ξ : Nat → Ro → Addr → Str → D → Prop) : Prop :=
  ∀ Z B H σ (J : Ends), Ok K l Z m B H σ ρ → (∀ σ' ρ' m' B2 H2, Ok K l Z m' B2 H2 σ' ρ' → Fr Z B H B2 H2 → Nx m' ρ' → J.nx σ' H2) →
    (∀ v d m' B2 H2, Bs l Z m' B2 H2 → Fr Z B H B2 H2 → Is K B2 v d → Rt m' d → J.rt v H2) → XkC K l W Z B H Ξ → ts J σ H
theorem ex_of (h : EvC K l te ρ m Φ) : EvX K l W te ρ m Φ Ξ := fun Z B H σ Q ok k _ => h Z B H σ Q ok k
theorem ax_of (h : AvC K l ta ρ m Ψ) : AvX K l W ta ρ m Ψ Ξ := fun Z B H σ Q ok k _ => h Z B H σ Q ok k
theorem sx_of (h : SvC K l ts ρ m Nx Rt) : SvX2 K l W ts ρ m Nx Rt Ξ := fun Z B H σ J ok k j _ => h Z B H σ J ok k j
theorem ax_cons (h : EvX K l W te ρ m (fun m1 x => AvX K l W ta ρ m1 (fun m2 xs => Ψ m2 (x :: xs)) Ξ) Ξ) : AvX K l W (tCons te ta) ρ m Ψ Ξ := by
  intro Z B H σ Q ok k x
  refine h Z B H σ _ ok (fun v d m1 B1 H1 o1 f1 i1 g1 => ?_) x
  refine g1 Z B1 H1 σ _ o1 (fun vs ds m2 B2 H2 o2 f2 i2 g2 => ?_) (x.on f1)
  exact k _ _ m2 B2 H2 o2 (f1.trans f2) (.cons (i1.mono f2.sub) i2) g2
theorem ex_tup (h : AvX K l W tA ρ m (fun m1 ds => ds.length ≤ 100000 ∧ Φ m1 (.tup ds)) Ξ) : EvX K l W (tTupC tA) ρ m Φ Ξ := by
  intro Z B H σ Q ok k x
  refine h Z B H σ _ ok (fun vs ds m1 B1 H1 o1 f1 i1 g1 => ?_) x
  refine ⟨?_, fun p ob hp hd _ => ?_⟩
  · rw [i1.length]
    exact Nat.le_trans g1.1 (by decide)
  · obtain ⟨o2, f2⟩ := o1.new (o := .frz ob (.tup vs)) hp
    exact k _ _ m1 _ _ o2 (f1.trans f2) (.newT upd_same hd (i1.mono f2.sub)) g1.2
theorem ex_call {pre : List D → Prop} {R : List D → Out → Prop}
    (h : AvC K l tA ρ m fun m1 ds => pre ds ∧ (∀ d, R ds (.ret d) → Φ m1 d) ∧ ∀ C f d, R ds (.exc C f d) → Ξ m1 ρ C f d) :
    EvX K l W (tCallX (SpE K pre R) [] W tA) ρ m Φ Ξ := by
  intro Z B H σ Q ok k x
  refine h Z B H σ _ ok fun vs ds m1 B1 H1 o1 f1 i1 g1 => ?_
  rw [List.append_nil]
  have go : ∀ {B2 H2 : Hp}, Same B1 B2 → SameN H1 H2 → SameB B2 H2 → (∀ a, H1 a ≠ none → B1 a = none → B2 a = none) → Ok K l Z m1 B2 H2 σ ρ ∧ Fr Z B1 H1 B2 H2 := fun s1 s2 s3 fr =>
    o1.step (m' := m1) s1 s3 (fun a e => by
      obtain ⟨g, s, c, q, r⟩ := (o1.hand a e).1
      exact ⟨g, s, c, s2 _ _ (o1.tab.ntLst q) q, r⟩) (fun a o n e => s2 a o n.2 e) fr
  refine ⟨B1, ds, ⟨o1.sub, o1.tab⟩, i1, g1.1, fun d v B2 H2 hR s1 s2 s3 fr iv => ?_, fun C f d v dd B2 H2 hR s1 s2 s3 fr hd iv => ?_⟩
  · obtain ⟨o2, f2⟩ := go s1 s2 s3 fr
    exact k v _ m1 B2 H2 o2 (f1.trans f2) iv (g1.2.1 d hR)
  · obtain ⟨o2, f2⟩ := go s1 s2 s3 fr
    exact x C f d v dd σ ρ m1 B2 H2 o2 (f1.trans f2) hd iv (g1.2.2 C f d hR)
theorem sx_ret (h : EvX K l W te ρ m Rt Ξ) : SvX2 K l W (tRet te) ρ m Nx Rt Ξ :=
  fun Z B H σ J ok _ j x => h Z B H σ _ ok (fun v d m1 B1 H1 o1 f1 i1 g1 => j v d m1 B1 H1 o1.toBs f1 i1 g1) x
theorem sx_drop (h : EvX K l W te ρ m (fun m1 _ => Nx m1 ρ) Ξ) : SvX2 K l W (tDrop te) ρ m Nx Rt Ξ :=
  fun Z B H σ J ok k _ x => h Z B H σ _ ok (fun v d m1 B1 H1 o1 f1 i1 g1 => k σ ρ m1 B1 H1 o1 f1 g1) x
theorem sx_seq (h : SvX2 K l W ts ρ m (fun m1 ρ1 => SvX2 K l W tu ρ1 m1 Nx Rt Ξ) Rt Ξ) : SvX2 K l W (tSeq ts tu) ρ m Nx Rt Ξ := by
  intro Z B H σ J ok k j x
  refine h Z B H σ _ ok (fun σ1 ρ1 m1 B1 H1 o1 f1 g1 => ?_) (fun v d m1 B1 H1 o1 f1 i1 g1 => j v d m1 B1 H1 o1 f1 i1 g1) x
  exact g1 Z B1 H1 σ1 J o1 (fun σ2 ρ2 m2 B2 H2 o2 f2 g2 => k σ2 ρ2 m2 B2 H2 o2 (f1.trans f2) g2)
    (fun v d m2 B2 H2 o2 f2 i2 g2 => j v d m2 B2 H2 o2 (f1.trans f2) i2 g2) (x.on f1)
theorem sx_if (h : TvC K l tt ρ m fun m1 b => if b = true then SvX2 K l W ts ρ m1 Nx Rt Ξ else SvX2 K l W tu ρ m1 Nx Rt Ξ) : SvX2 K l W (tIfS tt ts tu) ρ m Nx Rt Ξ := by
  intro Z B H σ J ok k j x
  refine h Z B H σ _ ok fun b m1 B1 H1 o1 f1 g1 => ?_
  cases b with
  | true => exact g1 Z B1 H1 σ J o1 (fun σ2 ρ2 m2 B2 H2 o2 f2 g2 => k σ2 ρ2 m2 B2 H2 o2 (f1.trans f2) g2) (fun v d m2 B2 H2 o2 f2 i2 g2 => j v d m2 B2 H2 o2 (f1.trans f2) i2 g2) (x.on f1)
  | false => exact g1 Z B1 H1 σ J o1 (fun σ2 ρ2 m2 B2 H2 o2 f2 g2 => k σ2 ρ2 m2 B2 H2 o2 (f1.trans f2) g2) (fun v d m2 B2 H2 o2 f2 i2 g2 => j v d m2 B2 H2 o2 (f1.trans f2) i2 g2) (x.on f1)
theorem sx_raise {C : Addr} {f : Str} (h : EvC K l te ρ m fun m1 d => Ξ m1 ρ C f d) : SvX2 K l W (fun _ σ H => tMkX C f te σ H fun c d H' => W c d σ H') ρ m Nx Rt Ξ := by
  intro Z B H σ J ok _ _ x
  refine h Z B H σ _ ok fun v d m1 B1 H1 o1 f1 i1 g1 => fun dx hdx => ?_
  obtain ⟨o2, f2⟩ := o1.new (o := .xd [(f, v)]) hdx
  exact x C f d v dx σ ρ m1 _ _ o2 (f1.trans f2) upd_same (i1.mono f2.sub) g1
theorem body_E {pre : List D → Prop} {R : List D → Out → Prop} {vs : List V} {H : Hp} {ts : TS}
    {Q : VK} {E : XK} {N : List Str} (h : SpE K pre R vs H Q E)
    (hb : ∀ ds, pre ds → vs.length = ds.length →
      SvX2 K none (fun c d _ H => E c d H) ts (datR ds ++ List.replicate (N.length - ds.length) none)
        0 (fun _ _ => R ds (.ret .non)) (fun _ d => R ds (.ret d)) fun _ _ C f d => R ds (.exc C f d)) :
    ts { nx := fun _ H' => Q .non H', rt := Q } (start N vs) H := by
  obtain ⟨B, ds, sb, is, hp, k, kx⟩ := h
  have hl := is.length
  have ok : Ok K none (fun a => H a ≠ none ∧ B a = none ∧ NTab a) 0 B H
      (start N vs) (datR ds ++ List.replicate (N.length - ds.length) none) := by
    refine ⟨⟨sb.1, fun a e => (nomatch e), fun z h => ⟨h.1, h.2.1, nofun, h.2.2⟩, sb.2⟩,
      ?_, fun i s e => ?_, fun i j ds1 es a n po p2 e1 => ?_⟩
    · unfold L2.start datR
      simp [hl]
    · rcases Nat.lt_or_ge i ds.length with hi | hi
      · rw [List.getElem?_append_left (by unfold datR; simpa using hi)] at e
        obtain ⟨v, e2, q⟩ := isAll_get (l := none)
          (Z := fun a => H a ≠ none ∧ B a = none ∧ NTab a) (H := H) is e
        refine ⟨v, ?_, q⟩
        unfold L2.start
        rw [List.getElem?_append_left (by simpa [hl] using hi)]
        exact e2
      · rw [List.getElem?_append_right (by unfold datR; simpa using hi)] at e
        rw [List.getElem?_replicate] at e
        split at e <;> cases e
    · rcases Nat.lt_or_ge i ds.length with hi | hi
      · rw [List.getElem?_append_left (by unfold datR; simpa using hi)] at e1
        unfold datR at e1
        rw [List.getElem?_map] at e1
        cases q : ds[i]? with
        | none => rw [q] at e1; cases e1
        | some d => rw [q] at e1; cases e1; cases po
      · rw [List.getElem?_append_right (by unfold datR; simpa using hi)] at e1
        rw [List.getElem?_replicate] at e1
        split at e1 <;> cases e1
  have back : ∀ {m' B2 H2}, Bs none (fun a => H a ≠ none ∧ B a = none ∧ NTab a) m' B2 H2 → Fr (fun a => H a ≠ none ∧ B a = none ∧ NTab a) B H B2 H2 → SameN H H2 := fun o2 f2 b o nt e => by
    cases q : B b with
    | none => rw [f2.kept b ⟨by rw [e]; exact nofun, q, nt⟩]; exact e
    | some x =>
      rw [sb.1 b x q] at e
      cases e
      exact o2.sub b _ (f2.sub b _ q)
  have out : ∀ {m' B2 H2}, Bs none (fun a => H a ≠ none ∧ B a = none ∧ NTab a) m' B2 H2 → ∀ a, H a ≠ none → B a = none → B2 a = none := fun o2 a h1 h2 =>
    (Classical.em (NTab a)).elim (fun nt => (o2.zs a ⟨h1, h2, nt⟩).2.1) fun nt => o2.tab.out nt
  have fin : ∀ v d m' B2 H2, Bs none (fun a => H a ≠ none ∧ B a = none ∧ NTab a) m' B2 H2 →
      Fr (fun a => H a ≠ none ∧ B a = none ∧ NTab a) B H B2 H2 → Is K B2 v d → R ds (.ret d) → Q v H2 := fun v d m' B2 H2 o2 f2 i2 e =>
    k d v B2 H2 e f2.sub (back o2 f2) ⟨o2.sub, o2.tab⟩ (out o2) i2
  exact hb ds hp hl _ B H _ _ ok
    (fun σ' ρ' m' B2 H2 o2 f2 g2 => fin .non .non m' B2 H2 o2.toBs f2 .non g2) fin
    fun C f d v dd σ' ρ' m' B2 H2 o2 f2 hd i2 g2 => kx C f d v dd B2 H2 g2 f2.sub (back o2.toBs f2) ⟨o2.sub, o2.tab⟩ (out o2.toBs) hd i2
theorem Ok.clear {Z : Addr → Prop} {B H : Hp} {σ : L2.St} {i : Nat} (h : Ok K l Z m B H σ ρ) : Ok K l Z m B H (σ.set i none) (ρ.set i none) := by
  have keep : ∀ {j : Nat} {s : Sl}, (ρ.set i none)[j]? = some (some s) → i ≠ j ∧ ρ[j]? = some (some s) := fun {j s} e => by
    have hj : i ≠ j := fun z => by
      subst z
      rcases Nat.lt_or_ge i ρ.length with hi | hi
      · rw [List.getElem?_set_self hi] at e; cases e
      · rw [List.getElem?_eq_none (by rw [List.length_set]; exact hi)] at e; cases e
    exact ⟨hj, by rwa [List.getElem?_set_ne hj] at e⟩
  refine { h.toBs with len := ?_, sl := ?_, dis := ?_ }
  · rw [List.length_set, List.length_set]; exact h.len
  · intro j s e
    obtain ⟨hj, e⟩ := keep e
    rw [List.getElem?_set_ne hj]
    exact h.sl j s e
  · intro j k s t a n p1 p2 e1 e2
    obtain ⟨hj, e1⟩ := keep e1
    obtain ⟨hk, e2⟩ := keep e2
    rw [List.getElem?_set_ne hj, List.getElem?_set_ne hk]
    exact h.dis j k s t a n p1 p2 e1 e2
theorem e_isX {j : Nat} {C : Addr} {f : Str} {d : D} {c : V} {cv : Value} {b : Bool} (hj : ρ[j]? = some (some (.obj (exR K C f d)))) (hc : ClsV c cv) (T : We.ExF K C) (hk : PySem.W.kitOne K (.ref C) cv = some b) (q : Φ m (.bl b)) :
    EvC K l (tCB (rIsX K) (tCons (tVar j) (tCons (tC c) tNil))) ρ m Φ := by
  intro Z B H σ Q ok k
  obtain ⟨v, e1, a, o, rfl, q1, q2, q3, q4, ⟨dd, v, rfl, hd, iv⟩, q6⟩ := ok.sl j _ hj
  exact ⟨_, e1, a, C, dd, _, c, cv, b, rfl, q1, ok.sub _ _ hd, hc, T, hk, k _ _ m B H ok Fr.refl (.bl b) q⟩
theorem e_xfH {j : Nat} {C : Addr} {f : Str} {d : D} (hj : ρ[j]? = some (some (.obj (exR K C f d)))) (T : We.ExF K C) (hno : PySem.W.findIn K (.ref C) f = some none) (q : Φ m d) :
    EvC K l (tXfH K f (tVar j)) ρ m Φ := by
  intro Z B H σ Q ok k
  obtain ⟨v, e1, a, o, rfl, q1, q2, q3, q4, ⟨dd, v, rfl, hd, iv⟩, q6⟩ := ok.sl j _ hj
  refine ⟨_, e1, a, C, dd, _, v, rfl, q1, ok.sub _ _ hd, T, hno, ?_, k _ _ m B H ok Fr.refl iv q⟩
  rw [List.lookup_cons, beq_self_eq_true]
/-- the values of classes -/
def clsA : List V → TA
  | [] => tNil
  | c :: r => tCons (tC c) (clsA r)
theorem clsA_run {H : Hp} {σ : L2.St} {Q : List V → Hp → Prop} : ∀ {cs : List V}, Q cs H → clsA cs σ H Q
  | [], h => h
  | c :: r, h => clsA_run (cs := r) (Q := fun xs H2 => Q (c :: xs) H2) h
theorem e_isXT {j : Nat} {C : Addr} {f : Str} {d : D} {cs : List V} {us : List Value} {b : Bool} {tcs : TA} (hj : ρ[j]? = some (some (.obj (exR K C f d)))) (he : tcs = clsA cs) (hl : cs.length ≤ 100) (hc : Paired ClsV cs us) (T : We.ExF K C) (hk : PySem.W.kitAny K (.ref C) us = some b) (q : Φ m (.bl b)) :
    EvC K l (tCB (rIsXT K) (tCons (tVar j) (tCons (tTup tcs) tNil))) ρ m Φ := by
  subst he
  intro Z B H σ Q ok k
  obtain ⟨v, e1, a, o, rfl, q1, q2, q3, q4, ⟨dd, v, rfl, hd, iv⟩, q6⟩ := ok.sl j _ hj
  refine ⟨_, e1, clsA_run ⟨Nat.le_trans hl (by decide), fun p hp => ?_⟩⟩
  obtain ⟨o2, f2⟩ := ok.new (o := .tup cs) hp
  exact ⟨a, C, dd, p, _, cs, us, b, rfl, upd_same, by rw [upd_ne (ne_of_none q1 hp)]; exact q1, by rw [upd_ne (ne_of_none (ok.sub _ _ hd) hp)]; exact ok.sub _ _ hd, hc, T, hk, k _ _ m _ _ o2 f2 (.bl b) q⟩
end
end Wt

namespace We
open PySem PySem.W PySem.Calls PyProof.Rows PySem.Spec L2
structure ExB (st : Stmt) (fld qual : Str) : Prop where
  body : ∃ (txt : Str) (p0 p1 p2 p3 p4 p5 p6 p7 p8 p9 : Pos), defBody st = excBody txt fld p0 p1 p2 p3 p4 p5 p6 p7 p8 p9 ∧
    ∀ env : Env, ∃ pl, eval (.Call (.Attribute (.Call (.Name "super" p0) [] [] p1) "__init__" p2) [.Constant (.str txt) 0 p3] [] p4) env = (do
      let ov ← attributeBase (.Call (.Name "super" p0) [] [] p1) "__init__" env (eval (.Call (.Name "super" p0) [] [] p1) env)
      standAt p2.atName
      let (f, first) ← holding [ov] (getMethod ov "__init__" pl)
      callWith p4 f first (backTo p4 (starEach [.Constant (.str txt) 0 p3] env)) [])
  bind : ∀ (kV doc pm ct cdv : Value) (an : Option Addr) (cc : Addr) (a b : Value), bindArgs (ksFn "__init__" qual (defArgs st) (defBody st) (defScope st) .none kV doc pm an cdv ct cc) ⟨[a, b], []⟩ = pure [(("self" : Str), a), (fld, b)]
  hp : ∃ ar : Arg, ((defArgs st).posonlyargs ++ (defArgs st).args).head? = some ar ∧ ar.arg = "self"
  nc : ∀ x ∈ (defScope st).names, x.2 ≠ .cell
  co : (defScope st).isCoroutine = false
  gen : (defScope st).isGenerator = false
  k : (defScope st).kind = .function
  ks : (defScope st).names.lookup ("super" : Str) = some .globalImplicit
  kc : (defScope st).names.lookup ("__class__" : Str) = some .free
  ka : (defScope st).names.lookup ("self" : Str) = some .local
  kf : (defScope st).names.lookup fld = some .local
  ne : fld ≠ "self"
  db : (fld == ("__debug__" : Str)) = false
theorem ex_of {P : Program} {K : Frag} {mg : Str → Option Value} {C fI cc cda : Addr} {st : Stmt} {fld qual file : Str} {kV doc pm ct oc ccl cl : Value} {an od cdd cld : Option Addr} {osl ccs csl : Array (Option Value)} {vs : Array Value} {tf : Tok} {cdD : ClassData}
    (B : ExB st fld qual) (hsuper : mg "super" = none) (q : excInitIn K C veB "ValueError.__new__" = true) (hi : findIn K (.ref C) "__init__" = some (some (.ref fI))) (hf : isFn K (.ref fI) = true)
    (lk : K.lookup fI = some ⟨oc, od, .func (ksFn "__init__" qual (defArgs st) (defBody st) (defScope st) .none kV doc pm an (.ref cda) ct cc), osl⟩)
    (hcd : codeIn K (.ref cda) qual = true) (hcode : K.lookup cda = some ⟨ccl, cdd, .fields vs, ccs⟩) (hvs : vs[2]? = some (.str file tf)) (hfile : ((P.main.file : Str) == file) = true)
    (hcell : K.lookup cc = some ⟨cl, cld, .cell (some (.ref C)), csl⟩) (hD : clsIn K C = some cdD) (hsub : mroIn K C (.ref C) = some true) (htop : (P.main.scope.names.lookup ("super" : Str)).isSome = false)
    (hm : ks_superIn K C C "__init__" = some (some (.builtin "ValueError.__init__"))) (hB : subIn K (.ref C) (.type "ValueError") = some true) (ho : nsIn K cStatics "thirdparty.any" = some none)
    (hs : findIn K (.ref C) "__setattr__" = some (some (.builtin "object.__setattr__"))) (hov : excOver K C veB = true) (ht : takerIn K C fld = some none)
    (exC : subIn K (.ref C) (.type "BaseException") = some true) (tyC : typeIn K (.ref C) = some (.type "type")) (kp : keepIn K (.ref C) = true)
    (ga : findIn K (.ref C) "__getattribute__" = some (some (.builtin "BaseException.__getattribute__"))) (gg : findIn K (.ref C) "__getattr__" = some none) (hd : hasDictIn K C = true)
    (hcl : findIn K (.ref C) "__class__" = some (some (.builtin "object.__class__"))) (cg : specialIn K (.builtin "object.__class__") "__get__" = some (some (.builtin "getset_descriptor.__get__")))
    (hct : takesIn K (.builtin "object.__class__") = some true) (mo : mroIn K C (.type "object") = some true) (no : findIn K (.ref C) fld = some none) : Ex P K mg C fld := by
  obtain ⟨txt, p0, p1, p2, p3, p4, p5, p6, p7, p8, p9, hb, hev⟩ := B.body
  obtain ⟨ar, hp, har⟩ := B.hp
  have hbd := B.bind
  rw [hb] at lk hbd
  exact ⟨⟨by rw [hD]; rfl, exC, tyC, kp, ga, gg, hd, hcl, cg, hct, mo⟩, fun X G Bn hbb lim hroom hq =>
    exc_make X G Bn hbb lim hsuper q hi hf lk hcd hcode hvs hfile hcell hD hsub hp har (hbd _ _ _ _ _ _ _) htop B.nc B.co B.gen B.k B.ks B.kc B.ka B.kf B.ne B.db hm hB ho hs hov ht hd hroom hev hq, no⟩
end We

namespace Wt
open PySem PySem.Spec PyProof.Rows L2
section
variable {K : PySem.W.Frag} {l : Option Addr} {ρ : Ro} {m : Nat}
variable {te tl : TE} {tA : TA} {Nx : Nat → Ro → Prop} {Rt : Nat → D → Prop}
end
end Wt

namespace Wt
open PySem PySem.Spec PyProof.Rows L2
section
variable {K : PySem.W.Frag} {l : Option Addr} {ρ : Ro} {m : Nat} {Φ : Nat → D → Prop} {tA : TA}
end
end Wt

namespace Wt
open PySem PySem.Spec PyProof.Rows L2
section
variable {K : PySem.W.Frag} {l : Option Addr} {ρ : Ro} {m : Nat} {Φ : Nat → D → Prop} {tA : TA} {te : TE} {tb : TS}
variable {Nx : Nat → Ro → Prop} {Rt : Nat → D → Prop}
theorem s_forR2 {j : Nat}
    (h : AvC K l tA ρ m fun m1 x => ∃ a b : Nat, x = [.int a, .int b] ∧ a < 2 ^ 60 ∧ b < 2 ^ 60 ∧
      ∃ I : Nat → Nat → Ro → Prop, I 0 m1 ρ ∧
      (∀ (i n : Nat) ρ', i < b - a → I i n ρ' → SvC K l tb (ρ'.set j (some (.dat (.int (a + i : Nat))))) n (fun n2 ρ2 => I (i + 1) n2 ρ2) Rt) ∧
      ∀ n ρ', I (b - a) n ρ' → Nx n ρ') :
    SvC K l (tFor (iRng2 tA) (gName j) tb) ρ m Nx Rt := by
  intro Z B H σ W ok k jr
  refine h Z B H σ _ ok fun vs x m1 B1 H1 o1 f1 i1 g1 => ?_
  obtain ⟨a, b, rfl, ha, hb, I, h0, hs, hd⟩ := g1
  obtain ⟨v, w, rfl, z1, z2⟩ := isAll2 i1
  cases z1
  cases z2
  refine ⟨(a : Int), (b : Int), rfl, ⟨by omega, by omega, by omega, by omega⟩, ?_⟩
  have hba : ((b : Int) - (a : Int)).toNat = b - a := by omega
  rw [hba]
  refine for_range (lo := (a : Int)) (n := b - a) (fun i σ' H' => ∃ n ρ' B', Ok K l Z n B' H' σ' ρ' ∧ Fr Z B1 H1 B' H' ∧ I i n ρ')
    ⟨m1, ρ, B1, o1, Fr.refl, h0⟩ (fun i σ' H' hi w => ?_) fun σ' H' w => ?_
  · obtain ⟨n, ρ', B', ok', fr', hI⟩ := w
    have e0 : (a : Int) + (i : Int) = ((a + i : Nat) : Int) := by omega
    rw [e0]
    refine hs i n ρ' hi hI Z B' H' _ _ (ok'.set (.int _)) (fun σ2 ρ2 m2 B2 H2 o2 f2 g2 => ⟨m2, ρ2, B2, o2, fr'.trans f2, g2⟩) fun v d m2 B2 H2 o2 f2 i2 g2 => ?_
    exact jr v d m2 B2 H2 o2 ((f1.trans fr').trans f2) i2 g2
  · obtain ⟨n, ρ', B', ok', fr', hI⟩ := w
    exact k σ' ρ' n B' H' ok' (f1.trans fr') (hd n ρ' hI)
end
end Wt

namespace Wt
open PySem PySem.Spec PyProof.Rows L2
section
variable {K : PySem.W.Frag} {l : Option Addr} {ρ : Ro} {m : Nat} {Φ : Nat → D → Prop}
end
end Wt

namespace Wt
open PySem PySem.Spec PyProof.Rows L2
section
variable {X : Cx}
end
section
variable {K : PySem.W.Frag} {l : Option Addr} {ρ : Ro} {m : Nat}
variable {Φ : Nat → D → Prop} {ta : TE}
end
end Wt

namespace Wt
open PySem PySem.Spec PyProof.Rows L2
section
variable {X : Cx} {o e : Expr} {apos cpos : Pos} {td ty : TE}
end
section
variable {K : PySem.W.Frag} {w : World} {l : Option Addr} {ρ : Ro} {m : Nat}
variable {Nx : Nat → Ro → Prop} {Rt : Nat → D → Prop} {Φ : Nat → D → Prop} {tk : TE}
theorem e_isNo {i : Nat} {R : ObR} (hi : ρ[i]? = some (some (.obj R))) (q : Φ m (.bl false)) : EvC K l (tOp rIsN (tVar i) (tC .non)) ρ m Φ := by
  intro Z B H σ Q ok k
  obtain ⟨v, e1, a, o, rfl, q1, q2, q3, q4, q5, q6⟩ := ok.sl i _ hi
  exact ⟨_, e1, rfl, k _ _ m B H ok ⟨Same.refl B, fun z _ => rfl⟩ (.bl _) q⟩
end
end Wt

namespace Wt
open PySem PySem.Spec PyProof.Rows L2
section
variable {K : PySem.W.Frag} {l : Option Addr} {ρ : Ro} {m : Nat} {Φ : Nat → D → Prop} {t1 t2 : TE}
end
end Wt

namespace Wt
open PySem PySem.Spec PyProof.Rows L2
section
variable {K : PySem.W.Frag} {w : World} {l : Option Addr} {ρ : Ro} {m : Nat}
variable {Nx : Nat → Ro → Prop} {Rt : Nat → D → Prop} {Φ : Nat → D → Prop} {te : TE}
end
end Wt

namespace Wt
open PySem PySem.Spec PyProof.Rows L2
section
variable {K : PySem.W.Frag} {l : Option Addr} {ρ : Ro} {m : Nat}
variable {Nx : Nat → Ro → Prop} {Rt : Nat → D → Prop} {tl te : TE}
end
end Wt

namespace Wt
open PySem PySem.Spec PyProof.Rows L2
section
variable {K : PySem.W.Frag} {l : Option Addr} {ρ : Ro} {m : Nat}
variable {Φ : Nat → D → Prop} {tl te : TE}
end
end Wt

namespace Wt
open PySem PySem.Spec PyProof.Rows L2
section
variable {K : PySem.W.Frag} {l : Option Addr} {ρ : Ro} {m : Nat}
variable {Nx : Nat → Ro → Prop} {Rt : Nat → D → Prop} {te : TE} {tA : TA}
end
end Wt

namespace Wt
open PySem PySem.Spec PyProof.Rows L2
section
variable {P : Program} {w : World} {K : PySem.W.Frag} {mg : Str → Option Value} {base : Heap}
end
section
variable {K : PySem.W.Frag} {l : Option Addr} {ρ : Ro} {m : Nat} {W : WX}
variable {Φ : Nat → D → Prop} {Ξ : Nat → Ro → Addr → Str → D → Prop} {tA : TA}
end
end Wt

namespace Wt
open PySem PySem.Spec PyProof.Rows L2
section
variable {P : Program} {w : World} {A : Around} {E : Value → Shared → Prop} {s : Shared}
end
section
variable {X : Cx}
end
section
variable {K : PySem.W.Frag} {l : Option Addr} {ρ : Ro} {m : Nat}
variable {Φ : Nat → D → Prop} {ta : TE}
end
section
variable {K : PySem.W.Frag} {l : Option Addr} {ρ : Ro} {m : Nat} {Φ : Nat → D → Prop}
end
end Wt

namespace Wt
open PySem PySem.Spec PyProof.Rows L2
section
variable {K : PySem.W.Frag}
/-- the key that data is -/
def KeyD (d : D) (k : Key) : Prop := (∃ n, d = .int n ∧ k = .inl n) ∨ ∃ x, d = .str x ∧ k = .inr x
theorem KeyD.is {B : Hp} {v : V} {d : D} {k : Key} (h : KeyD d k) (i : Is K B v d) : v = kV k := by
  rcases h with ⟨n, rfl, rfl⟩ | ⟨x, rfl, rfl⟩
  · cases i; rfl
  · cases i; rfl
end
section
variable {K : PySem.W.Frag} {l : Option Addr} {ρ : Ro} {m : Nat} {Φ : Nat → D → Prop} {td tk te : TE}
end
section
variable {K : PySem.W.Frag} {l : Option Addr} {ρ : Ro} {m : Nat} {Nx : Nat → Ro → Prop} {Rt : Nat → D → Prop} {t : TS}
end
structure Lk (B B' : Hp) (a : Addr) : Prop where
  ne : ∀ b, b ≠ a → B' b = B b
  at_ : ∃ es, Rd B a (.dK es) ∧ Rd B' a (.dK es)
section
variable {K : PySem.W.Frag} {B B' : Hp} {a : Addr}
theorem Lk.off (h : Lk B B' a) {b : Addr} {o : HO} (hb : B b = some o) (n1 : ∀ es, o ≠ .dK es) (n2 : ∀ x es, o ≠ .frz x (.dK es)) : B' b = some o := by
  rw [h.ne b fun z => ?_]
  · exact hb
  · subst z
    obtain ⟨es, h1 | ⟨x, h1⟩, _⟩ := h.at_
    · rw [h1] at hb; exact n1 es (Option.some.inj hb).symm
    · rw [h1] at hb; exact n2 x es (Option.some.inj hb).symm
theorem Lk.rd (h : Lk B B' a) {b : Addr} {es : List (Key × V)} (hb : Rd B b (.dK es)) : Rd B' b (.dK es) := by
  by_cases e : b = a
  · subst e
    obtain ⟨es', h1, h2⟩ := h.at_
    have : es' = es := by
      rcases h1 with h1 | ⟨x, h1⟩ <;> rcases hb with hb | ⟨y, hb⟩ <;> rw [h1] at hb <;> cases hb <;> rfl
    rw [← this]; exact h2
  · rcases hb with hb | ⟨y, hb⟩
    · exact .inl (by rw [h.ne b e]; exact hb)
    · exact .inr ⟨y, by rw [h.ne b e]; exact hb⟩
theorem Lk.sqT (h : Lk B B' a) {b : Addr} {xs : List V} (hb : SqT K B b xs) : SqT K B' b xs := by
  rcases hb with (hb | ⟨o, hb⟩) | hb
  · exact .inl (.inl (h.off hb (fun _ => nofun) fun _ _ => nofun))
  · exact .inl (.inr ⟨o, h.off hb (fun _ => nofun) fun _ _ => nofun⟩)
  · exact .inr hb
mutual
theorem Is.swap (h : Lk B B' a) : ∀ {v : V} {d : D}, Is K B v d → Is K B' v d
  | _, _, .non => .non
  | _, _, .bl b => .bl b
  | _, _, .int i => .int i
  | _, _, .str x => .str x
  | _, _, .lst e r => .lst (h.off e (fun _ => nofun) fun _ _ => nofun) (IsAll.swap h r)
  | _, _, .tup e r c => .tup (h.sqT e) (IsAll.swap h r) (by
      obtain ⟨o, xs, e, d⟩ := c
      exact ⟨o, xs, h.off e (fun _ => nofun) (fun _ _ => nofun), d⟩)
  | _, _, .dic e => .dic (h.rd e)
  | _, _, .ins e r => .ins (h.off e (fun _ => nofun) fun _ _ => nofun) (IsAll.swap h r)
  | _, _, .scr e => .scr (by
      rcases e with ⟨o, e⟩ | e
      · exact .inl ⟨o, h.off e (fun _ => nofun) fun _ _ => nofun⟩
      · exact .inr e)
  | _, _, .dct e n r => .dct (h.rd e) n (IsAll.swap h r)
theorem IsAll.swap (h : Lk B B' a) : ∀ {vs : List V} {ds : List D}, IsAll K B vs ds → IsAll K B' vs ds
  | _, _, .nil => .nil
  | _, _, .cons e r => .cons (Is.swap h e) (IsAll.swap h r)
end
/-- what an object's slot says stays while a dict is locked -/
def LkR (R : ObR) : Prop := ∀ B B' a b o, Lk B B' a → R B b o → R B' b o
def LkRo (ρ : Ro) : Prop := ∀ (i : Nat) R, ρ[i]? = some (some (.obj R)) → LkR R
theorem paired_swap (h : Lk B B' a) : ∀ {es : List (Key × V)} {kvs : List (Int × D)}, Paired (DkR K B) es kvs → Paired (DkR K B') es kvs
  | _, _, .nil => .nil
  | _, _, .cons e r => .cons ⟨e.1, e.2.swap h⟩ (paired_swap h r)
theorem DctR.lk {kvs : List (Int × D)} : LkR (DctR K kvs) := fun B B' a b o h ⟨es, e, p⟩ => ⟨es, e, paired_swap h p⟩
theorem Ok.swap {l : Option Addr} {Z : Addr → Prop} {m : Nat} {H H' : Hp} {σ : L2.St} {ρ : Ro} (ok : Ok K l Z m B H σ ρ) (h : Lk B B' a) (hn : ∀ b, b ≠ a → H' b = H b) (ha : H' a = B' a) (lr : LkRo ρ) :
    Ok K l Z m B' H' σ ρ := by
  have hB : B a ≠ none := by
    obtain ⟨es, h1 | ⟨x, h1⟩, _⟩ := h.at_ <;> rw [h1] <;> exact nofun
  have nn : ∀ b, B b = none → b ≠ a := fun b e z => hB (z ▸ e)
  have tab : Tb B' H' := fun p hp => by
    obtain ⟨e0, ps, e1, e2, e3⟩ := ok.tab p hp
    have na := nn _ e0
    refine ⟨by rw [h.ne _ na]; exact e0, ps, by rw [hn _ na]; exact e1, e2, fun pos cv hc => ?_⟩
    obtain ⟨c, q1, q2⟩ := e3 pos cv hc
    refine ⟨c, q1, ?_⟩
    rw [h.ne c fun z => ?_]
    · exact q2
    · subst z
      unfold LamX.CodeO at q2
      obtain ⟨es, h1 | ⟨x, h1⟩, _⟩ := h.at_ <;> rw [h1] at q2 <;> cases q2
  refine ⟨⟨fun b o e => ?_, fun b e => ?_, fun z hz => ?_, tab⟩, ok.len, fun i s e => ?_, ok.dis⟩
  · by_cases q : b = a
    · subst q; rw [ha]; exact e
    · rw [hn b q]; rw [h.ne b q] at e; exact ok.sub b o e
  · obtain ⟨⟨g, s, c, q1, q2⟩, q3⟩ := ok.hand b e
    have := nn b q3
    exact ⟨⟨g, s, c, by rw [hn b this]; exact q1, q2⟩, by rw [h.ne b this]; exact q3⟩
  · obtain ⟨w1, w2, w3⟩ := ok.zs z hz
    have := nn z w2
    exact ⟨by rw [hn z this]; exact w1, by rw [h.ne z this]; exact w2, w3⟩
  · obtain ⟨v, e2, q⟩ := ok.sl i s e
    refine ⟨v, e2, ?_⟩
    cases s with
    | dat d => exact Is.swap h q
    | hand => exact q
    | own fs =>
      obtain ⟨b, zs, rfl, p1, p2, p3, p4, p5⟩ := q
      have := nn b p2
      exact ⟨b, zs, rfl, by rw [hn b this]; exact p1, by rw [h.ne b this]; exact p2, p3, p4, p5.swap h⟩
    | obj R =>
      obtain ⟨b, zs, rfl, p1, p2, p3, p4, p5, p6⟩ := q
      have := nn b p2
      exact ⟨b, zs, rfl, by rw [hn b this]; exact p1, by rw [h.ne b this]; exact p2, p3, p4, lr i R e _ _ _ _ _ h p5, p6⟩
end
section
variable {K : PySem.W.Frag} {l : Option Addr} {ρ : Ro} {m : Nat} {Nx : Nat → Ro → Prop} {Rt : Nat → D → Prop} {Φ : Nat → D → Prop} {tb : TS} {tt : TT} {te : TE}
end
end Wt

namespace Wt
open PySem PySem.Spec PyProof.Rows L2
/-- an entry: the key, where it stands, its value -/
abbrev EntV := NestedKey × Addr × Value
def RawC (w : World) (h : Heap) (a : Addr) (L : List EntV) : Prop :=
  (a == sysModules) = false ∧ ∃ es ep, h.DictRaw a es ep ∧ es.toList = L.map fun e => (⟨NestedKey.hash w e.1, .ref e.2.1, e.2.2⟩ : DictEntry)
def DcO (w : World) (a : Addr) (L : List EntV) : HO := .ext fun h => RawC w h a L
section
variable {P : Program} {w : World}
end
structure CnE (K : PySem.W.Frag) (B : Hp) (e : EntV) (q : List D × Int) : Prop where
  key : e.1 = (D.tup q.1).nk
  kd : D.keyeds q.1 = true
  dp : (D.tup q.1).nk.depth ≤ 8
  ki : Is K B (.ref e.2.1) (.tup q.1)
  vi : ∃ t, e.2.2 = .int q.2 t
section
variable {K : PySem.W.Frag} {B : Hp}
theorem CnE.mono {B2 : Hp} {e : EntV} {q : List D × Int} (h : CnE K B e q) (s : Same B B2) : CnE K B2 e q := ⟨h.key, h.kd, h.dp, h.ki.mono s, h.vi⟩
def CnR (w : World) (K : PySem.W.Frag) (kvs : List (List D × Int)) : ObR := fun B a o => ∃ L, o = DcO w a L ∧ Paired (CnE K B) L kvs
theorem CnR.mono {w : World} {kvs : List (List D × Int)} : (CnR w K kvs).Mono := fun B1 B2 a o s ⟨L, e, p⟩ => ⟨L, e, L2.Paired.mapP p fun x y z => z.mono s⟩
theorem CnR.lk {w : World} {kvs : List (List D × Int)} : LkR (CnR w K kvs) := fun B B' a b o h ⟨L, e, p⟩ => ⟨L, e, L2.Paired.mapP p fun x y z => ⟨z.key, z.kd, z.dp, z.ki.swap h, z.vi⟩⟩
end
section
variable {X : Cx} {o e f i value : Expr} {apos cpos pos pos' : Pos} {td ty tx tv : TE}
end
section
variable {K : PySem.W.Frag} {w : World} {l : Option Addr} {ρ : Ro} {m : Nat}
variable {Nx : Nat → Ro → Prop} {Rt : Nat → D → Prop} {Φ : Nat → D → Prop} {tk tx tv : TE}
end
end Wt

namespace Wt
open PySem PySem.Spec PyProof.Rows L2
section
variable {K : PySem.W.Frag} {w : World} {l : Option Addr} {ρ : Ro} {m : Nat}
variable {Nx : Nat → Ro → Prop} {Rt : Nat → D → Prop} {te : TE}
end
end Wt

open PySem PySem.Spec PyProof.Rows L2 Wt
namespace Wt
section
variable {K : PySem.W.Frag} {l : Option Addr} {ρ : Ro} {m : Nat} {te : TE} {Nx : Nat → Ro → Prop} {Rt : Nat → D → Prop}
end
end Wt

namespace Wt
open PySem PySem.Spec PyProof.Rows L2
section
variable {K : PySem.W.Frag} {W0 : WX} {l : Option Addr} {ρ : Ro} {m : Nat}
variable {Nx : Nat → Ro → Prop} {Rt : Nat → D → Prop} {Φ : Nat → D → Prop} {te : TE} {tt : TT}
end
end Wt

namespace Wt
open PySem PySem.Spec PyProof.Rows L2
section
variable {K : PySem.W.Frag} {l : Option Addr} {ρ : Ro} {m : Nat}
variable {Nx : Nat → Ro → Prop} {Rt : Nat → D → Prop} {te : TE} {tA : TA}
end
end Wt

namespace Wt
open PySem PySem.Spec PyProof.Rows L2
section
variable {K : PySem.W.Frag} {l : Option Addr} {ρ : Ro} {m : Nat}
variable {Nx : Nat → Ro → Prop} {Rt : Nat → D → Prop} {te t1 t2 : TE} {tA : TA} {Φ : Nat → D → Prop} {Θ : Nat → Bool → Prop}
end
end Wt

namespace Wt
open PySem PySem.Spec PyProof.Rows L2
def LsR (bs : List Addr) : ObR := fun _ _ o => o = .lst (bs.map V.ref)
theorem LsR.mono {bs : List Addr} : (LsR bs).Mono := fun _ _ _ _ _ h => h
structure RowsE (K : PySem.W.Frag) (B H : Hp) (bs : List Addr) (rows : List (List D)) : Prop where
  len : bs.length = rows.length
  at_ : ∀ (c : Nat) b ds, bs[c]? = some b → rows[c]? = some ds → ∃ vs, H b = some (.lst vs) ∧ IsAll K B vs ds
theorem RowsE.more {K : PySem.W.Frag} {B H B2 H2 : Hp} {bs : List Addr} {rows : List (List D)} (h : RowsE K B H bs rows) (s : Same B B2) (k : ∀ z ∈ bs, H2 z = H z) : RowsE K B2 H2 bs rows :=
  ⟨h.len, fun c b ds e1 e2 => by
    obtain ⟨vs, e3, i⟩ := h.at_ c b ds e1 e2
    exact ⟨vs, by rw [k b (List.mem_of_getElem? e1)]; exact e3, i.mono s⟩⟩
section
variable {K : PySem.W.Frag} {l : Option Addr} {i : Nat} {bs : List Addr} {ts tu tb : TS} {ρ : Ro} {m : Nat} {rows : List (List D)} {Nx Nx' : Nat → Ro → List (List D) → Prop}
variable {tl te tk t1 t2 : TE} {tA : TA}
variable {Ny : Nat → Ro → Prop} {Rt : Nat → D → Prop} {rest : TS}
end
end Wt

namespace Wt
open PySem PySem.Spec PyProof.Rows L2
section
variable {K : PySem.W.Frag} {l : Option Addr} {ρ : Ro} {m : Nat}
variable {Nx : Nat → Ro → Prop} {Rt : Nat → D → Prop} {Φ : Nat → D → Prop} {ta te t1 t2 : TE} {tt : TT} {tA : TA} {tb : TS}
end
end Wt

namespace Wt
open PySem PySem.Spec PyProof.Rows L2
section
variable {K : PySem.W.Frag} {l : Option Addr} {ρ : Ro} {m : Nat} {Φ : Nat → D → Prop}
end
end Wt

namespace Wt
open PySem PySem.Spec PyProof.Rows L2
section
variable {K : PySem.W.Frag} {l : Option Addr} {ρ : Ro} {m : Nat}
variable {Nx : Nat → Ro → Prop} {Rt : Nat → D → Prop} {Φ : Nat → D → Prop} {ta te t1 t2 : TE} {tt : TT} {tA : TA} {tb : TS}
end
end Wt

namespace Wt
open PySem PySem.Spec PyProof.Rows L2
section
variable {K : PySem.W.Frag} {w : World} {l : Option Addr} {ρ : Ro} {m : Nat}
variable {Nx : Nat → Ro → Prop} {Rt : Nat → D → Prop} {te : TE}
end
end Wt

namespace Wt
open PySem PySem.Spec PyProof.Rows L2
section
variable {K : PySem.W.Frag} {l : Option Addr} {ρ : Ro} {m : Nat} {Φ : Nat → D → Prop} {tk te : TE} {tt : TT}
/-- the dict while it is locked -/
def DctF (K : PySem.W.Frag) (od : Obj) (es : List (Key × V)) (kvs : List (Int × D)) : ObR := fun B _ o => o = .frz od (.dK es) ∧ Paired (DkR K B) es kvs
theorem DctF.mono {od : Obj} {es : List (Key × V)} {kvs : List (Int × D)} : (DctF K od es kvs).Mono := fun B1 B2 a o s ⟨e, p⟩ =>
  ⟨e, L2.Paired.mapP p fun x y z => ⟨z.1, z.2.mono s⟩⟩
end
end Wt

namespace Wt
open PySem PySem.Spec PyProof.Rows L2
section
variable {K : PySem.W.Frag} {l : Option Addr} {ρ : Ro} {m : Nat} {Φ : Nat → D → Prop}
end
section
variable {K : PySem.W.Frag} {l : Option Addr} {ρ : Ro} {m : Nat} {w : World} {Nx : Nat → Ro → Prop} {Rt : Nat → D → Prop}
end
end Wt

namespace Wt
open PySem PySem.Spec PyProof.Rows L2
section
variable {K : PySem.W.Frag} {l : Option Addr} {ρ : Ro} {m : Nat}
variable {Φ : Nat → D → Prop} {te : TE} {tt : TT} {tA : TA}
end
end Wt

namespace Wt
open PySem PySem.Spec PyProof.Rows L2
section
variable {K : PySem.W.Frag} {l : Option Addr} {ρ : Ro} {m : Nat} {w : World} {Nx : Nat → Ro → Prop} {Rt : Nat → D → Prop}
end
end Wt

namespace Wt
open PySem PySem.Spec PyProof.Rows L2
section
variable {K : PySem.W.Frag} {l : Option Addr} {ρ : Ro} {m : Nat}
variable {Φ : Nat → D → Prop} {te tl : TE} {tt : TT}
end
end Wt

namespace Wt
open PySem PySem.Spec PyProof.Rows L2
section
variable {K : PySem.W.Frag} {l : Option Addr} {Z : Addr → Prop} {m : Nat} {B H : Hp} {σ : L2.St} {ρ : Ro} {ds : List D} {i : Nat} {a : Addr} {xs : List V}
end
section
variable {K : PySem.W.Frag} {l : Option Addr} {ρ : Ro} {m : Nat} {Φ : Nat → D → Prop} {te : TE}
end
end Wt

namespace PySem.W
open PySem PySem.Spec PyProof.Rows
section
variable {prog : Program} {w : World} {A A₀ : Around} {E : Value → Shared → Prop} {s : Shared} {K : Frag} {x C L f : Addr} {h₀ : Heap} {m : Str → Option Value} {ox : Obj} {od : Option Obj} {name : Str} {b tb : Value}
end
end PySem.W
namespace L2
open PySem PySem.Spec PyProof.Rows
end L2
namespace Wt
open PySem PySem.Spec PyProof.Rows L2
section
variable {K : PySem.W.Frag} {l : Option Addr} {ρ : Ro} {m : Nat} {Φ : Nat → D → Prop} {E : XK}
/-- what is asked of a class with an own == and no own != -/
structure NeK (K : PySem.W.Frag) (C : Addr) : Prop where
  ne : PySem.W.findIn K (.ref C) "__ne__" = some (some (.builtin "object.__ne__"))
  ob : PySem.W.subIn K (.ref C) (.type "object") = some true
  ha : PySem.W.findIn K (.ref C) "__class__" = some (some (.builtin "object.__class__"))
  hn : PySem.W.specialIn K (.builtin "object.__class__") "__get__" = some (some (.builtin "getset_descriptor.__get__"))
  htk : PySem.W.takesIn K (.builtin "object.__class__") = some true
  hm : PySem.W.mroIn K C (.type "object") = some true
  me : PySem.W.kitOne K (.ref C) (.ref C) = some true
theorem NeK.ic {K : PySem.W.Frag} {C : Addr} (h : NeK K C) (c : Cls K C) : C8.InsC K C := ⟨c, h.ha, h.hn, h.htk, h.hm, h.me⟩
def rIsC (C : Addr) : List V → Hp → VK → Prop := fun xs H Q => ∃ a dx fs, xs = [.ref a, .ref C] ∧ H a = some (.ins C dx fs) ∧ Q (.bl true) H
theorem e_isC {j : Nat} {C : Addr} {ns : List Str} {ds : List D} (hj : ρ[j]? = some (some (.dat (.ins C ns ds)))) (q : Φ m (.bl true)) :
    EvC K l (tCB (rIsC C) (tCons (tVar j) (tCons (tC (.ref C)) tNil))) ρ m Φ := by
  intro Z B H σ Q ok k
  obtain ⟨v, e1, h⟩ := ok.sl j _ hj
  cases h with
  | @ins a dx _ _ us _ ha is1 => exact ⟨_, e1, a, dx, _, rfl, ok.sub _ _ ha, k _ _ m B H ok Fr.refl (.bl true) q⟩
end
end Wt

namespace Wt
open PySem PySem.Spec PyProof.Rows L2
section
variable {prog : Program} {w : World} {A : Around} {s : Shared}
end
/-- what may have become of the heap: nothing, or a code object is new and the table tells it -/
def MadeC (P c' : Addr) (q : Str) (ps : Array Value) (H H1 : Hp) : Prop := H1 = H ∨ (H c' = none ∧ c' ≠ P ∧ ∃ more : Array Value, H1 = upd (upd H P (.tbl (ps ++ more))) c' (LamX.CodeO c' q) ∧
  TriplesOk (ps ++ more).toList ∧ ∀ (pos : Pos) (cv : Value), codeAmong pos (ps ++ more).toList = some cv → codeAmong pos ps.toList = some cv ∨ cv = .ref c')
section
variable {X : Cx} {pins : List (Addr × Obj)} {σ : L2.St} {H : Hp} {s : Shared}
end
section
variable {X : Cx} {pins : List (Addr × Obj)} {σ : L2.St} {B H H1 : Hp} {s : Shared} {P c' : Addr} {q : Str} {ps : Array Value}
theorem MadeC.at (m : MadeC P c' q ps H H1) {b : Addr} {o : HO} (hb : b ≠ P) (e : H b = some o) : H1 b = some o := by
  rcases m with rfl | ⟨m1, m2, more, rfl, _⟩
  · exact e
  · rw [upd_ne (fun z => by rw [z, m1] at e; cases e), upd_ne hb]
    exact e
theorem MadeC.same (m : MadeC P c' q ps H H1) (sb : Same B H) (hn : B P = none) : Same B H1 := fun b o e => m.at (fun z => by rw [z, hn] at e; cases e) (sb b o e)
end
section
variable {X : Cx}
end
section
variable {K : PySem.W.Frag} {l : Option Addr} {ρ : Ro} {m : Nat} {Φ : Nat → D → Prop} {te : TE} {Z : Addr → Prop} {B H H2 : Hp} {σ : L2.St}
theorem Ok.made {P c' : Addr} {q : Str} {ps : Array Value} (ok : Ok K l Z m B H σ ρ) (hq : (P, q) ∈ tabs) (hu : ∀ p ∈ tabs, p.1 = P → p.2 = q) (hP : H P = some (.tbl ps)) (mk : MadeC P c' q ps H H2) :
    ∃ B2, Ok K l Z m B2 H2 σ ρ ∧ Fr Z B H B2 H2 := by
  have mat := fun b o => mk.at (b := b) (o := o)
  rcases mk with rfl | ⟨m1, m2, more, rfl, m4, m5⟩
  · exact ⟨B, ok, Fr.refl⟩
  · have hB : B c' = none := ok.same0 m1
    have sm : Same B (upd B c' (LamX.CodeO c' q)) := same_new hB
    have nP : B P = none := (ok.tab _ hq).1
    refine ⟨_, ok.step (m' := m) sm ⟨fun b o e => ?_, fun p hp => ?_⟩ (fun a e => ?_) (fun a o n e => mat a o (fun z => n.2 _ hq z.symm) e) (fun a h1 h2 => ?_)⟩
    · by_cases n : b = c'
      · subst n
        rw [upd_same] at e ⊢
        exact e
      · rw [upd_ne n] at e
        exact mat b o (fun z => by rw [z, nP] at e; cases e) (ok.sub b o e)
    · obtain ⟨e0, ps', e1, e2, e3⟩ := ok.tab p hp
      have nc : p.1 ≠ c' := fun z => by rw [z, m1] at e1; cases e1
      refine ⟨by rw [upd_ne nc]; exact e0, ?_⟩
      by_cases n : p.1 = P
      · have eq2 := hu p hp n
        rw [n, hP] at e1
        cases e1
        refine ⟨ps ++ more, by rw [n, upd_ne (fun z => m2 z.symm), upd_same], m4, fun pos cv hc => ?_⟩
        rcases m5 pos cv hc with z | rfl
        · obtain ⟨c, w1, w2⟩ := e3 pos cv z
          exact ⟨c, w1, sm _ _ w2⟩
        · exact ⟨c', rfl, by rw [upd_same, eq2]⟩
      · refine ⟨ps', by rw [upd_ne nc, upd_ne n]; exact e1, e2, fun pos cv hc => ?_⟩
        obtain ⟨c, w1, w2⟩ := e3 pos cv hc
        exact ⟨c, w1, sm _ _ w2⟩
    · obtain ⟨g, s, c, w, r⟩ := (ok.hand a e).1
      exact ⟨g, s, c, mat a _ (fun z => by rw [z, hP] at w; cases w) w, r⟩
    · rw [upd_ne (fun z => h1 (by rw [z]; exact m1))]
      exact h2
end
end Wt

namespace Wt
open PySem PySem.Spec PyProof.Rows L2
section
variable {K : PySem.W.Frag} {l : Option Addr} {ρ : Ro} {m : Nat} {Nx : Nat → Ro → Prop} {Rt : Nat → D → Prop} {tb : TS} {tA : TA}
end
mutual
/-- no list, no dict, no instance in it -/
def flatD : D → Bool
  | .non => true
  | .bl _ => true
  | .int _ => true
  | .str _ => true
  | .tup xs => flatDs xs
  | _ => false
def flatDs : List D → Bool
  | [] => true
  | x :: xs => flatD x && flatDs xs
end
section
variable {K : PySem.W.Frag} {B : Hp} {a : Addr} {ys : List V}
mutual
theorem Is.less (ha : B a = some (.lst ys)) : ∀ {v : V} {d : D}, Is K B v d → flatD d = true → Is K (less1 B a) v d
  | _, _, .non, _ => .non
  | _, _, .bl b, _ => .bl b
  | _, _, .int i, _ => .int i
  | _, _, .str x, _ => .str x
  | _, _, .lst h r, f => by simp [flatD] at f
  | _, _, @Is.tup _ _ t xs ds h r c, f => by
    have go : ∀ o, B t = some o → (∀ zs, o ≠ .lst zs) → less1 B a t = some o := fun o e n => by
      rw [less1_ne fun z => by rw [z, ha] at e; exact n ys (Option.some.inj e).symm]
      exact e
    refine .tup ?_ (IsAll.less ha r (by simpa [flatD] using f)) ?_
    · rcases h with (h | ⟨o, h⟩) | h
      · exact .inl (.inl (go _ h nofun))
      · exact .inl (.inr ⟨o, go _ h nofun⟩)
      · exact .inr h
    · obtain ⟨o, xs', e, d⟩ := c
      exact ⟨o, xs', go _ e nofun, d⟩
  | _, _, .dic h, f => by simp [flatD] at f
  | _, _, .ins h r, f => by simp [flatD] at f
  | _, _, .scr h, f => by simp [flatD] at f
  | _, _, .dct h e r, f => by simp [flatD] at f
theorem IsAll.less (ha : B a = some (.lst ys)) : ∀ {vs : List V} {ds : List D}, IsAll K B vs ds → flatDs ds = true → IsAll K (less1 B a) vs ds
  | _, _, .nil, _ => .nil
  | _, _, .cons h r, f => by
    rw [flatDs, Bool.and_eq_true] at f
    exact .cons (h.less ha f.1) (IsAll.less ha r f.2)
end
end
section
variable {K : PySem.W.Frag} {l : Option Addr} {ρ : Ro} {m : Nat} {Φ : Nat → D → Prop}
end
end Wt

namespace Wt
open PySem PySem.Spec PyProof.Rows L2
section
variable {K : PySem.W.Frag} {l : Option Addr} {ρ : Ro} {m : Nat} {Nx : Nat → Ro → Prop} {Rt : Nat → D → Prop}
variable {tl tk tv : TE} {tA : TA} {mk : Addr → HO} {put : PutT}
end
section
variable {K : PySem.W.Frag} {l : Option Addr} {w : World} {i : Nat} {ts tu tb tf tr : TS} {ρ : Ro} {m : Nat} {kvs : List BxL} {Nx : Nat → Ro → List BxL → Prop}
variable {tl te tk : TE} {tA : TA} {Nx0 : Nat → Ro → Prop} {Rt : Nat → D → Prop}
end
end Wt

namespace Wt
open PySem PySem.Spec PyProof.Rows L2
section
variable {P : Program} {w : World} {K : PySem.W.Frag} {mg : Str → Option Value} {base : Heap}
end
end Wt

namespace Wt
open PySem PySem.Spec PyProof.Rows L2
section
variable {K : PySem.W.Frag} {l : Option Addr} {w : World} {ρ : Ro} {m : Nat} {Φ : Nat → D → Prop} {te tk : TE} {tA : TA}
end
end Wt

namespace Wt
open PySem PySem.Spec PyProof.Rows L2
section
variable {X : Cx}
end
end Wt
namespace Wt
open PySem PySem.Spec PyProof.Rows L2
section
variable {K : PySem.W.Frag} {H : Hp}
end
section
variable {K : PySem.W.Frag} {l : Option Addr} {w : World} {i : Nat} {tf : TS} {ρ : Ro} {m : Nat} {Nx0 : Nat → Ro → Prop} {Rt : Nat → D → Prop} {tA : TA}
end
end Wt

namespace Wt
open PySem PySem.Spec PyProof.Rows L2
section
variable {X : Cx}
end
section
variable {K : PySem.W.Frag} {l : Option Addr} {ρ : Ro} {m : Nat} {Φ : Nat → D → Prop} {te tl : TE} {Nx : Nat → Ro → Prop} {Rt : Nat → D → Prop}
end
end Wt

namespace Wt
open PySem PySem.Spec PyProof.Rows L2
/-- an empty table of code objects -/
def emp : Obj := { cls := .none, data := .fields #[] }
/-- nothing but a frozen list and empty tables -/
def OnlyT (H : Hp) : Prop := ∀ b, H b = none ∨ (∃ o xs, H b = some (.frz o (.lst xs))) ∨ H b = some (.tbl #[])
section
variable {P : Program} {w : World} {K : PySem.W.Frag} {mg mb : Str → Option Value} {CX : CXT} {k : Nat} {fa a : Addr} {cs : List (Addr × Addr)} {fd : FuncData} {x : Str} {sp : Sp} {s1 : Shared} {vs : List Value} {ns : List Int}
/-- what a heap tells of the tables is seen from behind a mask, too -/
theorem tab_seen {b P0 : Addr} {c : Addr} {h : Heap} {H : Hp} (see : ∀ z o, h.get? z = some o → (∀ vs n, o.data ≠ .seq vs n) → o ≠ emp → (hidT h H).get? z = some o)
    (C : PySem.W.CodeHd h c P0) (hP : h.get? P0 = some emp) (hns : h.Ns mainGlobals mg)
    (hbm : ∃ (bm : Addr) (ob : Obj), mg "__builtins__" = some (.ref bm) ∧ bm ≠ builtinsNs ∧ h.get? bm = some ob ∧ ob.cls = .type "module" ∧ ob.dict = some builtinsNs ∧ ob.data = .plain) :
    LamX.TabB (hidT h H) mg c P0 := by
  have hG : ∀ z, h.get? z = some emp → z ≠ mainGlobals := fun z e q => by
    obtain ⟨o, es, ep, e1, d1, _⟩ := hns
    rw [← q, e] at e1
    cases e1
    cases d1
  refine ⟨?_, ?_, (hG P0 hP).symm⟩
  · obtain ⟨o, us, file, tf, flags, tg, inF, text, tt, e1, r1, r2, r⟩ := C
    refine ⟨o, us, file, tf, flags, tg, inF, text, tt, see c o e1 (fun vs n z => ?_) (fun z => ?_), r1, r2, r⟩
    · rw [r2] at z
      cases z
    · rw [z] at r1
      cases r1
  · obtain ⟨bm, ob, b1, b2, b3, b4, b5, b6⟩ := hbm
    have dat : ∀ d, ob.data = d → d = .plain := fun d e => e.symm.trans b6
    refine ⟨bm, ob, b1, b2, fun q => ?_, fun q => ?_, see bm ob b3 (fun vs n z => nomatch dat _ z) (fun z => nomatch dat _ (congrArg Obj.data z)), b4, b5, b6⟩
    · obtain ⟨o, es, ep, e1, d1, _⟩ := hns
      rw [← q, b3] at e1
      cases e1
      exact nomatch dat _ d1
    · rw [q, hP] at b3
      cases b3
      cases b6
/-- the run of the law's call from an abstract heap that holds at most the script and empty tables -/
theorem call_from (KX : K.In s1.heap) (hns : s1.heap.Ns mainGlobals mg) (hb : s1.heap.Ns builtinsNs mb) (hbb : ∀ x : Str, x ≠ "__name__" → mb x = bootBuiltins x) (hlim : s1.heap.NoLimit) (hg : s1.gens = #[])
    (hT : ∀ p ∈ cs, s1.heap.get? p.2 = some emp) (nT : ∀ p ∈ cs, K.lookup p.2 = none) (C : ∀ p ∈ cs, PySem.W.CodeHd s1.heap p.1 p.2)
    (hbm : ∃ (bm : Addr) (ob : Obj), mg "__builtins__" = some (.ref bm) ∧ bm ≠ builtinsNs ∧ s1.heap.get? bm = some ob ∧ ob.cls = .type "module" ∧ ob.dict = some builtinsNs ∧ ob.data = .plain)
    (hr : Room k callerA)
    (F : ∀ base : Heap, K.In base → base.Ns mainGlobals mg → (∀ p ∈ cs, LamX.TabB base mg p.1 p.2) → FnG P w K mg base CX k fa fd [x] sp) (hbind : ∀ (s : Shared) (u : Value), BindsTo s fd ⟨[u], []⟩ [(x, u)])
    {H : Hp} (hO : OnlyT H) (hok : HOk P w H s1.heap) (hA : ∀ b, H b ≠ none → K.lookup b = none) (hB : ∀ b, H b = some (.tbl #[]) → ∃ p ∈ cs, p.2 = b)
    (hsp : sp [.ref a] H (fun v _ => v = .bl true) fun _ _ _ => False) (hCX : ∀ H e s', CX [] H s1 (fun _ _ _ => False) e s' → False) :
    codeAny (model P w) callerA (.call (.ref fa) ⟨[.ref a], []⟩) (fun r s' => r = .ok (.ret (.bool true)) ∧ OldK s1.heap s'.heap ∧ s'.os = s1.os ∧ AllBare s'.gens) s1 := by
  have see : ∀ z o, s1.heap.get? z = some o → (∀ vs n, o.data ≠ .seq vs n) → o ≠ emp → (hidT s1.heap H).get? z = some o := fun z o e n1 n2 => by
    refine hidT_get e ?_
    rcases hO z with q | ⟨ob, xs, q⟩ | q
    · exact q
    · obtain ⟨e1, _, us, n, _, e4⟩ := hok z _ q
      rw [e] at e4
      cases e4
      exact (n1 _ _ rfl).elim
    · have e1 : s1.heap.get? z = some emp := hok z _ q
      rw [e] at e1
      exact (n2 (Option.some.inj e1)).elim
  have nsK : ∀ {b : Addr} {m : Str → Option Value}, s1.heap.Ns b m → (hidT s1.heap H).Ns b m := by
    intro b m ⟨o, es, ep, e, d, r⟩
    exact ⟨o, es, ep, see b o e (fun vs n z => by rw [d] at z; cases z) (fun z => by rw [z] at d; cases d), d, r⟩
  have hKb : K.In (hidT s1.heap H) := by
    intro b o e
    refine hidT_get (KX b o e) ?_
    cases q : H b with
    | none => rfl
    | some u =>
      rw [hA b (by rw [q]; exact nofun)] at e
      cases e
  obtain ⟨mc, l1, l2⟩ := hlim
  have hM : Mod K mg (hidT s1.heap H) := ⟨hKb, nsK hns, ⟨mb, nsK hb, hbb⟩, ⟨mc, nsK l1, l2⟩⟩
  have e0 : Env0 P w K mg (hidT s1.heap H) callerA [] s1 H :=
    { frames := rfl, mod := hM, bs := fun b o e => of_hidT e, bsz := Nat.le_of_eq (hidT_size _ _), funs := trivial, frf := fun b z => (nomatch z), hok := hok, bare := .of_eq hg }
  have TB : ∀ p ∈ cs, LamX.TabB (hidT s1.heap H) mg p.1 p.2 := fun p hp => tab_seen (b := p.2) see (C p hp) (hT p hp) hns hbm
  refine codeAny_mono ((F _ hKb (nsK hns) TB).run callerA [] s1 H ⟨[.ref a], []⟩ [.ref a] [.ref a] _ _ rfl hr e0 (hbind s1 (.ref a)) (.cons rfl .nil) hsp) fun res s' h => ?_
  match res, h with
  | .error e, h => exact (hCX H e s' h).elim
  | .ok .next, h => exact False.elim h
  | .ok .brk, h => exact False.elim h
  | .ok .cont, h => exact False.elim h
  | .ok (.ret u), h =>
    obtain ⟨v, H', os, bare, un, hok', r', q⟩ := h
    cases (show v = .bl true from q)
    obtain rfl : u = Value.bool true := r'
    have was : ∀ b o, s1.heap.get? b = some o → s'.heap.get? b = some o ∨ ((∃ p ∈ cs, p.2 = b) ∧ o = emp ∧ ∃ more : Array Value, s'.heap.get? b = some { cls := .none, data := .fields more }) := fun b o e => by
      rcases hO b with z | ⟨ob, xs, z⟩ | z
      · exact .inl (un.keep b o e z (fun m => nomatch m) (fun m => nomatch m))
      · have z1 := (hok b _ z).1
        rw [e] at z1
        cases z1
        exact .inl (hok' b _ (un.frzs b _ _ z)).1
      · have z1 : s1.heap.get? b = some emp := hok b _ z
        rw [e] at z1
        obtain ⟨more, z2⟩ := un.tbls b #[] z
        exact .inr ⟨hB b z, Option.some.inj z1, _, hok' b _ z2⟩
    refine ⟨rfl, ⟨fun b o e => ?_, fun b o e => ?_⟩, os, bare⟩
    · rcases was b o e with z | ⟨⟨p, hp, rfl⟩, rfl, more, z⟩
      · exact .inl z
      · exact .inr (.inl ⟨((C p hp).tab (hT p hp)).isCodeTable, rfl, #[], more, rfl, by rw [Array.empty_append]; exact z⟩)
    · rcases was b o e with z | ⟨_, _, more, z⟩
      · exact ⟨o, z⟩
      · exact ⟨_, z⟩
open Classical in
theorem law_callGT (KX : K.In s1.heap) (hns : s1.heap.Ns mainGlobals mg) (hb : s1.heap.Ns builtinsNs mb) (hbb : ∀ x : Str, x ≠ "__name__" → mb x = bootBuiltins x) (hlim : s1.heap.NoLimit) (hg : s1.gens = #[])
    (hT : ∀ p ∈ cs, s1.heap.get? p.2 = some emp) (nT : ∀ p ∈ cs, K.lookup p.2 = none) (C : ∀ p ∈ cs, PySem.W.CodeHd s1.heap p.1 p.2)
    (hbm : ∃ (bm : Addr) (ob : Obj), mg "__builtins__" = some (.ref bm) ∧ bm ≠ builtinsNs ∧ s1.heap.get? bm = some ob ∧ ob.cls = .type "module" ∧ ob.dict = some builtinsNs ∧ ob.data = .plain)
    (ha : s1.heap.get? a = some { cls := .type "list", data := .seq vs.toArray }) (hi : IntsAre vs ns) (hl : ns.length ≤ sizeLine) (hr : Room k callerA)
    (F : ∀ base : Heap, K.In base → base.Ns mainGlobals mg → (∀ p ∈ cs, LamX.TabB base mg p.1 p.2) → FnG P w K mg base CX k fa fd [x] sp) (hbind : ∀ (s : Shared) (u : Value), BindsTo s fd ⟨[u], []⟩ [(x, u)])
    (hsp : ∀ H : Hp, OnlyT H → (∀ p ∈ cs, H p.2 = some (.tbl #[])) → SqL K H a (ns.map V.int) → sp [.ref a] H (fun v _ => v = .bl true) fun _ _ _ => False) (hCX : ∀ H e s', CX [] H s1 (fun _ _ _ => False) e s' → False) :
    codeAny (model P w) callerA (.call (.ref fa) ⟨[.ref a], []⟩) (fun r s' => r = .ok (.ret (.bool true)) ∧ OldK s1.heap s'.heap ∧ s'.os = s1.os ∧ AllBare s'.gens) s1 := by
  have rv := vals_ints hi
  have na : ∀ p ∈ cs, p.2 ≠ a := fun p hp e => by
    have z := hT p hp
    rw [e, ha] at z
    cases z
  -- the tables alone
  let Ht : Hp := fun b => if ∃ p ∈ cs, p.2 = b then some (.tbl #[]) else none
  have t1 : ∀ p ∈ cs, Ht p.2 = some (.tbl #[]) := fun p hp => if_pos ⟨p, hp, rfl⟩
  have t0 : ∀ b, Ht b = none ∨ (Ht b = some (.tbl #[]) ∧ ∃ p ∈ cs, p.2 = b) := fun b => by
    by_cases h : ∃ p ∈ cs, p.2 = b
    · exact .inr ⟨if_pos h, h⟩
    · exact .inl (if_neg h)
  have ta : Ht a = none := if_neg fun ⟨p, hp, e⟩ => na p hp e
  have okt : HOk P w Ht s1.heap := fun b u z => by
    rcases t0 b with q | ⟨q, p, hp, rfl⟩
    · rw [q] at z; cases z
    · rw [q] at z
      cases z
      exact hT p hp
  cases hk : K.lookup a with
  | some o =>
    have e := KX a o hk
    rw [ha] at e
    cases e
    refine call_from KX hns hb hbb hlim hg hT nT C hbm hr F hbind (H := Ht) (fun b => (t0 b).elim .inl fun z => .inr (.inr z.1)) okt (fun b z => ?_) (fun b z => ?_) (hsp Ht (fun b => (t0 b).elim .inl fun z => .inr (.inr z.1)) t1 (.inr ⟨_, vs.toArray, _, hk, rfl, rfl, rfl, ?_, by simpa using rv⟩)) hCX
    · rcases t0 b with q | ⟨q, p, hp, rfl⟩
      · exact absurd q z
      · exact nT p hp
    · rcases t0 b with q | ⟨q, h⟩
      · rw [q] at z; cases z
      · exact h
    · rw [List.size_toArray, hi.length]
      exact hl
  | none =>
    let ob : Obj := { cls := .type "list", data := .seq vs.toArray }
    let H0 : Hp := upd Ht a (.frz ob (.lst (ns.map V.int)))
    have at_a : H0 a = some (.frz ob (.lst (ns.map V.int))) := upd_same
    have off_a : ∀ b, b ≠ a → H0 b = Ht b := fun b h => upd_ne h
    have only : OnlyT H0 := fun b => by
      by_cases h : b = a
      · subst h
        exact .inr (.inl ⟨_, _, at_a⟩)
      · rw [off_a b h]
        exact (t0 b).elim .inl fun z => .inr (.inr z.1)
    refine call_from KX hns hb hbb hlim hg hT nT C hbm hr F hbind (H := H0) only (fun b u z => ?_) (fun b z => ?_) (fun b z => ?_) (hsp H0 only (fun p hp => by rw [off_a p.2 (na p hp)]; exact t1 p hp) (.inl (.inr ⟨ob, at_a⟩))) hCX
    · by_cases h : b = a
      · subst h
        rw [at_a] at z
        cases z
        refine ⟨ha, ?_, vs, _, rv, ha⟩
        rw [List.length_map]
        exact hl
      · rw [off_a b h] at z
        rcases t0 b with q | ⟨q, p, hp, rfl⟩
        · rw [q] at z; cases z
        · rw [q] at z
          cases z
          exact hT p hp
    · by_cases h : b = a
      · rw [h]; exact hk
      · rw [off_a b h] at z
        rcases t0 b with q | ⟨q, p, hp, rfl⟩
        · exact absurd q z
        · exact nT p hp
    · by_cases h : b = a
      · subst h
        rw [at_a] at z
        cases z
      · rw [off_a b h] at z
        rcases t0 b with q | ⟨q, h⟩
        · rw [q] at z; cases z
        · exact h
end
/-- what the law's text gives where defs make lambdas -/
theorem walkGT {l : PySem.W.OpenLaw} {n k : Nat} {q : Program} {loose : List Str} {XP : (Str → Option Value) → Heap → Prop} {YP : World → Heap → Prop} {d : DefRec} {K : Params → PySem.W.Frag} {sp : PySem.W.Frag → Sp} {x : Str}
    (hn : l.most = some n) (hn2 : n ≤ sizeLine) (hdf : d.params.defaults = []) (hr : Room k callerA) (hY : ∀ (w : World) (h : Heap), YP w h → (K w.params).In h)
    (xs : List Str) (hx : ∀ y ∈ xs, ∃ e, (recsOf q).find? (fun e => e.name == y) = some e)
    (F : ∀ (w : World) (mg : Str → Option Value) (fa : Addr) (h : Heap), (K w.params).In h → h.Ns mainGlobals mg → mg d.name = some (.ref fa) →
      ∃ (fd : FuncData) (cs : List (Addr × Addr)), (∀ p ∈ cs, ∃ y ∈ xs, PySem.W.tabIn (K w.params) y = some p) ∧ (∀ p ∈ cs, (K w.params).lookup p.2 = none) ∧ (∀ t ∈ tabs, ∃ p ∈ cs, p.2 = t.1) ∧
        (∀ (s : Shared) (u : Value), BindsTo s fd ⟨[u], []⟩ [(x, u)]) ∧
        ∀ base : Heap, (K w.params).In base → base.Ns mainGlobals mg → (∀ p ∈ cs, LamX.TabB base mg p.1 p.2) → FnG l.prog w (K w.params) mg base CX0 k fa fd [x] (sp (K w.params)))
    (hsp : ∀ (K : PySem.W.Frag) (H : Hp) (a : Addr) (ns : List Int), ns.length ≤ n → OnlyT H → (∀ p ∈ tabs, H p.1 = some (.tbl #[])) → SqL K H a (ns.map V.int) → sp K [.ref a] H (fun v _ => v = .bl true) fun _ _ _ => False) :
    PySem.W.WalkO q loose XP YP l.row.toRowW d [] (fun f vs => PySem.call f vs) := by
  refine Att.attach_call hn hdf ?_
  intro w s0 s1 mg mb fa o pm cd doc a vs ns G Y ho hd hcd hmg hobj hints hlen hg
  have KX := hY w _ Y
  obtain ⟨fd, cs, h1, h2, h3, hb, hF⟩ := F w mg fa _ KX G.T.g hmg
  have hC : ∀ p ∈ cs, PySem.W.CodeHd s1.heap p.1 p.2 ∧ s1.heap.get? p.2 = some emp := fun p hp => by
    obtain ⟨y, hy, e⟩ := h1 p hp
    obtain ⟨e2, he2⟩ := hx y hy
    exact PySem.W.tab_of G.T KX he2 e
  refine law_callGT KX G.T.g G.T.b G.T.builtins G.T.nolimit hg (fun p hp => (hC p hp).2) h2 (fun p hp => (hC p hp).1) G.T.bmain hobj hints (Nat.le_trans hlen hn2) hr hF hb (fun H hO hH hS => hsp _ H a ns hlen hO (fun t ht => ?_) hS) fun H e s' z => z
  obtain ⟨p, hp, e⟩ := h3 t ht
  rw [← e]
  exact hH p hp
end Wt

namespace L2
open PySem PySem.Spec PyProof.Rows
def rEqIns (C : Addr) (T : Sp) (E : XK) : R2 := fun x y H Q => ∃ a b dx dy fs gs, x = .ref a ∧ y = .ref b ∧ H a = some (.ins C dx fs) ∧ H b = some (.ins C dy gs) ∧
  T [x, y] H (fun v H' => ∃ r, v = .bl r ∧ Q (.bl r) H') E
theorem op_eqIns {X : Cx} {n : Nat} {CX : CXT} {C f : Addr} {fd : FuncData} {ps : List Str} {T : Sp} {E : XK} (F : FnOk X.prog X.w X.K X.mg X.base CX n f fd ps T)
    (hs2 : PySem.W.findIn X.K (.ref C) (Str.ofString "__eq__") = some (some (.ref f))) (hf : PySem.W.isFn X.K (.ref f) = true)
    (hb : Binds X.K fd ps []) (hx : Passes CX X E) (hr : Room (n + 1) X.A) : OpR X (compareOp .Eq) (rEqIns C T E) := by
  intro pins s σ H x y v u Q I rx ry hq
  obtain ⟨a, b, dx, dy, fs, gs, rfl, rfl, ha, hb', hsp⟩ := hq
  cases rx
  cases ry
  show wpAny (model X.prog X.w) X.A (richCompare .Eq _ _) (EP X pins σ Q) X.xe s
  obtain ⟨mA, J, _⟩ := ins_get I.hok ha
  obtain ⟨mB, J', _⟩ := ins_get I.hok hb'
  obtain ⟨od, J, _⟩ := J.look
  obtain ⟨od', J', _⟩ := J'.look
  obtain ⟨m, hF⟩ := I.fr
  refine PySem.W.cmp_K (op := .Eq) (tb := .ref C) (hr.mono (Nat.le_succ n)).units0 hF I.ok.mod.kin J J'.type (by simp [PySem.W.notFirst]) hs2 hf ?_
  have e0 : Env0 X.prog X.w X.K X.mg X.base X.A X.stack s H := I.env0
  have hl := F.len _ _ _ _ hsp
  have r2 : Vals [V.ref a, V.ref b] [Value.ref a, Value.ref b] := .cons rfl (.cons rfl .nil)
  refine wpAny_call (codeAny_mono (F.run X.A X.stack s H ⟨[.ref a, .ref b], []⟩ [.ref a, .ref b] [.ref a, .ref b] _ E (hr.mono (Nat.le_succ n)) e0 (by
    have := hb s [.ref a, .ref b] I.kIn (by simpa using hl)
    simpa using this) r2 hsp) fun r s' hq => ?_)
  cases r with
  | error e => exact hx pins σ H s e s' I hq
  | ok fl =>
    cases fl with
    | ret w =>
      obtain ⟨z, H', I', rz, q, ez, hQ⟩ := I.after hq
      subst ez
      cases rz
      exact ⟨.bl q, H', I', rfl, hQ⟩
    | next => exact False.elim hq
    | brk => exact False.elim hq
    | cont => exact False.elim hq
end L2
namespace Wt
open PySem PySem.Spec PyProof.Rows L2
section
variable {K : PySem.W.Frag} {l : Option Addr} {ρ : Ro} {m : Nat} {Φ : Nat → D → Prop} {E : XK}
theorem v_eqIns {C : Addr} {ns ns2 : List Str} {xs ys : List D} {pre : List D → Prop} {F : List D → D} {r : Bool} (hp : pre [.ins C ns xs, .ins C ns2 ys]) (hF : F [.ins C ns xs, .ins C ns2 ys] = .bl r)
    (q : Φ m (.bl r)) : VvC K l ρ (fun vs H Q => ∃ x y, vs = [x, y] ∧ rEqIns C (SpP K pre F) E x y H Q) [.ins C ns xs, .ins C ns2 ys] m Φ := by
  intro Z B H σ vs Q ok is k
  obtain ⟨v, w, rfl, h1, h2⟩ := isAll2 is
  cases h1 with
  | @ins a dx _ _ us _ ha is1 =>
    cases h2 with
    | @ins b dy _ _ ws _ hb is2 =>
      refine ⟨_, _, rfl, a, b, dx, dy, _, _, rfl, rfl, ok.sub _ _ ha, ok.sub _ _ hb, ?_⟩
      refine v_P (Φ := fun m2 d => m2 = m ∧ d = .bl r) hp ⟨rfl, hF⟩ Z B H σ [.ref a, .ref b] _ ok is fun v d m2 B2 H2 o2 f2 i2 g2 => ?_
      obtain ⟨rfl, rfl⟩ := g2
      cases i2
      exact ⟨r, rfl, k _ _ _ _ _ o2 f2 (.bl _) q⟩
theorem e_isXT2 {j : Nat} {C : Addr} {f : Str} {d : D} {c0 c1 : V} {u0 u1 : Value} {b : Bool} (hj : ρ[j]? = some (some (.obj (exR K C f d)))) (h0 : ClsV c0 u0) (h1 : ClsV c1 u1) (T : We.ExF K C) (hk : PySem.W.kitAny K (.ref C) [u0, u1] = some b) (q : Φ m (.bl b)) :
    EvC K l (tCB (rIsXT K) (tCons (tVar j) (tCons (tTup (tCons (tC c0) (tCons (tC c1) tNil))) tNil))) ρ m Φ :=
  e_isXT (cs := [c0, c1]) hj rfl (Nat.le_of_ble_eq_true rfl) (.cons h0 (.cons h1 .nil)) T hk q
theorem e_isXT3 {j : Nat} {C : Addr} {f : Str} {d : D} {c0 c1 c2 : V} {u0 u1 u2 : Value} {b : Bool} (hj : ρ[j]? = some (some (.obj (exR K C f d)))) (h0 : ClsV c0 u0) (h1 : ClsV c1 u1) (h2 : ClsV c2 u2) (T : We.ExF K C) (hk : PySem.W.kitAny K (.ref C) [u0, u1, u2] = some b) (q : Φ m (.bl b)) :
    EvC K l (tCB (rIsXT K) (tCons (tVar j) (tCons (tTup (tCons (tC c0) (tCons (tC c1) (tCons (tC c2) tNil)))) tNil))) ρ m Φ :=
  e_isXT (cs := [c0, c1, c2]) hj rfl (Nat.le_of_ble_eq_true rfl) (.cons h0 (.cons h1 (.cons h2 .nil))) T hk q
theorem e_isXT4 {j : Nat} {C : Addr} {f : Str} {d : D} {c0 c1 c2 c3 : V} {u0 u1 u2 u3 : Value} {b : Bool} (hj : ρ[j]? = some (some (.obj (exR K C f d)))) (h0 : ClsV c0 u0) (h1 : ClsV c1 u1) (h2 : ClsV c2 u2) (h3 : ClsV c3 u3) (T : We.ExF K C) (hk : PySem.W.kitAny K (.ref C) [u0, u1, u2, u3] = some b) (q : Φ m (.bl b)) :
    EvC K l (tCB (rIsXT K) (tCons (tVar j) (tCons (tTup (tCons (tC c0) (tCons (tC c1) (tCons (tC c2) (tCons (tC c3) tNil))))) tNil))) ρ m Φ :=
  e_isXT (cs := [c0, c1, c2, c3]) hj rfl (Nat.le_of_ble_eq_true rfl) (.cons h0 (.cons h1 (.cons h2 (.cons h3 .nil)))) T hk q
theorem e_isXT5 {j : Nat} {C : Addr} {f : Str} {d : D} {c0 c1 c2 c3 c4 : V} {u0 u1 u2 u3 u4 : Value} {b : Bool} (hj : ρ[j]? = some (some (.obj (exR K C f d)))) (h0 : ClsV c0 u0) (h1 : ClsV c1 u1) (h2 : ClsV c2 u2) (h3 : ClsV c3 u3) (h4 : ClsV c4 u4) (T : We.ExF K C) (hk : PySem.W.kitAny K (.ref C) [u0, u1, u2, u3, u4] = some b) (q : Φ m (.bl b)) :
    EvC K l (tCB (rIsXT K) (tCons (tVar j) (tCons (tTup (tCons (tC c0) (tCons (tC c1) (tCons (tC c2) (tCons (tC c3) (tCons (tC c4) tNil)))))) tNil))) ρ m Φ :=
  e_isXT (cs := [c0, c1, c2, c3, c4]) hj rfl (Nat.le_of_ble_eq_true rfl) (.cons h0 (.cons h1 (.cons h2 (.cons h3 (.cons h4 .nil))))) T hk q
theorem e_isXT6 {j : Nat} {C : Addr} {f : Str} {d : D} {c0 c1 c2 c3 c4 c5 : V} {u0 u1 u2 u3 u4 u5 : Value} {b : Bool} (hj : ρ[j]? = some (some (.obj (exR K C f d)))) (h0 : ClsV c0 u0) (h1 : ClsV c1 u1) (h2 : ClsV c2 u2) (h3 : ClsV c3 u3) (h4 : ClsV c4 u4) (h5 : ClsV c5 u5) (T : We.ExF K C) (hk : PySem.W.kitAny K (.ref C) [u0, u1, u2, u3, u4, u5] = some b) (q : Φ m (.bl b)) :
    EvC K l (tCB (rIsXT K) (tCons (tVar j) (tCons (tTup (tCons (tC c0) (tCons (tC c1) (tCons (tC c2) (tCons (tC c3) (tCons (tC c4) (tCons (tC c5) tNil))))))) tNil))) ρ m Φ :=
  e_isXT (cs := [c0, c1, c2, c3, c4, c5]) hj rfl (Nat.le_of_ble_eq_true rfl) (.cons h0 (.cons h1 (.cons h2 (.cons h3 (.cons h4 (.cons h5 .nil)))))) T hk q
theorem e_isXT7 {j : Nat} {C : Addr} {f : Str} {d : D} {c0 c1 c2 c3 c4 c5 c6 : V} {u0 u1 u2 u3 u4 u5 u6 : Value} {b : Bool} (hj : ρ[j]? = some (some (.obj (exR K C f d)))) (h0 : ClsV c0 u0) (h1 : ClsV c1 u1) (h2 : ClsV c2 u2) (h3 : ClsV c3 u3) (h4 : ClsV c4 u4) (h5 : ClsV c5 u5) (h6 : ClsV c6 u6) (T : We.ExF K C) (hk : PySem.W.kitAny K (.ref C) [u0, u1, u2, u3, u4, u5, u6] = some b) (q : Φ m (.bl b)) :
    EvC K l (tCB (rIsXT K) (tCons (tVar j) (tCons (tTup (tCons (tC c0) (tCons (tC c1) (tCons (tC c2) (tCons (tC c3) (tCons (tC c4) (tCons (tC c5) (tCons (tC c6) tNil)))))))) tNil))) ρ m Φ :=
  e_isXT (cs := [c0, c1, c2, c3, c4, c5, c6]) hj rfl (Nat.le_of_ble_eq_true rfl) (.cons h0 (.cons h1 (.cons h2 (.cons h3 (.cons h4 (.cons h5 (.cons h6 .nil))))))) T hk q
end
end Wt

namespace Wt
open PySem PySem.Spec PyProof.Rows L2 LamX
section
variable {X : Cx} {pins : List (Addr × Obj)} {σ : L2.St} {H HZ : Hp} {s s1 : Shared}
/-- the run of a lambda without parameters, called within frames outer -/
theorem lam_code {A : Around} {outer : List Env} {E : XK} {k : Nat} {fl cob : Addr} {pmv ctv : Value} {prs : Arguments} {bd : Expr} {sco : Scope} {tb : XK → TE} {Q : VK}
    (I : Inv X pins σ H s) (L : LamS X.env.scope sco) (e0 : Env0 X.prog X.w X.K X.mg X.base A outer s1 HZ) (lim : s1.heap.NoLimit) (un : Un (frs X.stack) [] H HZ s.heap s1.heap)
    (of1 : s1.heap.get? fl = some (PySem.W.kla_obj "<lambda>" (X.env.qual ++ "<lambda>") prs bd sco (cloFrom X.env.cells sco.names []) pmv cob ctv))
    (hbind : bindArgs (PySem.W.kla_fn "<lambda>" (X.env.qual ++ "<lambda>") prs bd sco (cloFrom X.env.cells sco.names []) pmv (.ref cob) ctv) ⟨[], []⟩ = pure [])
    (hc : HZ cob = some (CodeO cob (X.env.qual ++ "<lambda>"))) (hr : Room (k + 1) A)
    (hbody : ∀ (A : Around) (outer : List Env) (s : Shared) (H : Hp) (E : XK), Room k (A.deeper (lamEnv X sco s.heap.objs.size fl cob)) → PE (lamCx X A outer s H E sco fl cob) bd (tb E)) (ht : tb E σ HZ Q) :
    codeAny (model X.prog X.w) A (.call (.ref fl) ⟨[], []⟩) (CR (L2.CX X.prog X.w) outer X.prog X.w HZ s1 Q E) s1 := by
  obtain ⟨⟨ob, us, tk, g1, g2, g3⟩, _⟩ := e0.hok cob _ hc
  refine PySem.W.kla_callFunE hr.depth of1 rfl L.co L.gen rfl ⟨cob, ob, us, tk, rfl, g1, g2, g3⟩ ?_
  rw [hbind]
  refine wpAny_pure (wpAny_newFunctionEnv (fun y hy => (L.own y hy).2) (fun y hy => (nomatch hy)) (fun hp hns hsb => ⟨lim.fresh _ hsb, ?_⟩) L.kind)
  have kp : ∀ b o, s1.heap.get? b = some o → hp.get? b = some o := fun b o e => hsb.extBut b o (Nat.ne_of_lt (Heap.lt_size e)) (Heap.get?_push_of_some _ e)
  show codeAny _ _ (.expr bd (lamEnv X sco s1.heap.objs.size fl cob)) _ _
  have J := lam_start2 (A := A) (outer := outer) (E := E) (f := fl) (c' := cob) (tk := s1.toks + ([] : List (Str × Value)).length) I L e0 hr.hd un hns kp
  refine PySem.W.kla_codeExpr (wpAny_mono ((hbody A outer s1 HZ E (hr.deeper _)).run [] _ _ HZ Q J ht) (fun v st hq => ?_) fun e st hq => hq)
  obtain ⟨x, Hx, Jx, rx, qx⟩ := hq
  exact ⟨x, Hx, Jx.os, Jx.bare, Jx.base, Jx.hok, rx, qx⟩
/-- the wish of a(), a the lambda at fl with code object cob -/
def tAct (i : Nat) (fl cob : Addr) (q : Str) (W : WX) (tl : XK → Hp → VK → Prop) : TE := fun σZ HZ Q =>
  ∃ E : XK, (∀ cls d Hx, E cls d Hx → W cls d σZ Hx) ∧ σZ[i]? = some (some (.ref fl)) ∧ HZ cob = some (CodeO cob q) ∧ tl E HZ Q
theorem pe_actX {CXg : CXT} {Eg : XK} {Ng : List Str} {qg : Str} {sg : Scope} {gd fl cob : Addr} {cdg pmv ctv : Value} {prs : Arguments} {bd : Expr} {sco : Scope} {k i : Nat} {a : Str} {pn : List (Addr × Obj)} {xe : Value → Shared → Prop} {W : WX} {tb : XK → TE} {p1 p2 : Pos}
    (I : Inv X pins σ H s) (L : LamS X.env.scope sco) (hf : s.heap.get? fl = some (PySem.W.kla_obj "<lambda>" (X.env.qual ++ "<lambda>") prs bd sco (cloFrom X.env.cells sco.names []) pmv cob ctv)) (hfn : H fl = none) (hfr : fl ∉ frs X.stack)
    (hbind : bindArgs (PySem.W.kla_fn "<lambda>" (X.env.qual ++ "<lambda>") prs bd sco (cloFrom X.env.cells sco.names []) pmv (.ref cob) ctv) ⟨[], []⟩ = pure [])
    (tk : Takes ((cxOf CXg X.prog X.w X.K X.mg X.base Ng qg sg gd cdg X.A X.stack s H Eg).tr pn xe) W) (hr : Room (k + 1) (X.A.deeper (envOfC qg sg s.heap.objs.size gd cdg)))
    (hbody : ∀ (A : Around) (outer : List Env) (s : Shared) (H : Hp) (E : XK), Room k (A.deeper (lamEnv X sco s.heap.objs.size fl cob)) → PE (lamCx X A outer s H E sco fl cob) bd (tb E))
    (hN : Ng[i]? = some a) (hv : Vis sg a) (hd : (a == ("__debug__" : Str)) = false) (hcd : (a == ("__classdict__" : Str)) = false) :
    PE ((cxOf CXg X.prog X.w X.K X.mg X.base Ng qg sg gd cdg X.A X.stack s H Eg).tr pn xe) (.Call (.Name a p1) [] [] p2) (tAct i fl cob (X.env.qual ++ "<lambda>") W fun E H' Q' => tb E σ H' Q') := by
  constructor
  rintro pz sz σz Hz Q Iz ⟨E, hW, hs, hc, ht⟩
  have get := (pe_var (pos := p1) (i := i) hN hv hd hcd).run pz sz σz Hz (fun v H1 => v = .ref fl ∧ H1 = Hz) Iz ⟨.ref fl, hs, rfl, rfl⟩
  refine wpAny_Call_Name_kw (thn get fun u s1 ⟨v, H1, I1, r1, ev, eH⟩ => ?_)
  subst ev eH
  cases r1
  have of1 := I1.base.keep fl _ hf hfn hfr (fun z => nomatch (show fl ∈ ([] : List Addr) from z))
  refine PySem.W.callWith_F0 ⟨_, _, _, _, of1⟩ ?_
  have go := lam_code (X := X) (A := X.A.deeper (envOfC qg sg s.heap.objs.size gd cdg)) (outer := envOfC qg sg s.heap.objs.size gd cdg :: X.stack) (HZ := H1) (s1 := s1) (E := E) (Q := Q) I L I1.env0 I1.nolimit I1.base of1 hbind hc hr hbody ht
  refine wpAny_call (codeAny_mono go fun r st hq => ?_)
  match r, hq with
  | .error e, hq => exact tk e st (XE.of_call I1 (fun cls d Hx h => hW cls d Hx h) hq)
  | .ok (.ret u), hq => exact I1.after hq
  | .ok .next, hq => exact False.elim hq
  | .ok .brk, hq => exact False.elim hq
  | .ok .cont, hq => exact False.elim hq
end
/-- a def of the text that calls what it got (its parameter a), nothing else known of it; TT: what it makes of that -/
def GivesX (P : Program) (w : World) (K : PySem.W.Frag) (mg : Str → Option Value) (base : Heap) (k : Nat) (x : Str) (st : Stmt) (gd : Addr) (Ng : List Str) (a : Str) (TT : (XK → Hp → VK → Prop) → Hp → VK → Prop) : Prop :=
  ∀ (cdv : Value) (A : Around) (outer : List Env) (s : Shared) (H : Hp) (Q : VK) (fl cob : Addr) (q : Str) (tl : XK → Hp → VK → Prop), A.guards = some [] → Room k (A.deeper (envOfC x (defScope st) s.heap.objs.size gd cdv)) →
    (∀ (W : WX) (pn : List (Addr × Obj)) (xe : Value → Shared → Prop) (p1 p2 : Pos), Takes ((cxOf CX0 P w K mg base Ng x (defScope st) gd cdv A outer s H E0).tr pn xe) W →
      PE ((cxOf CX0 P w K mg base Ng x (defScope st) gd cdv A outer s H E0).tr pn xe) (.Call (.Name a p1) [] [] p2) (tAct 0 fl cob q W tl)) →
    H cob = some (CodeO cob q) → TT tl H Q →
    ∃ t, PSs (cxOf CX0 P w K mg base Ng x (defScope st) gd cdv A outer s H E0).nox (defBody st) t ∧ t { nx := fun _ H' => Q .non H', rt := Q } (L2.start Ng [.ref fl]) H
def tLamX (P : Addr) (q : Str) (TT : (XK → Hp → VK → Prop) → Hp → VK → Prop) (t : XK → TE) : TE := fun σ H Q => ∃ ps : Array Value, H P = some (.tbl ps) ∧ TriplesOk ps.toList ∧
  (∀ (pos : Pos) (cv : Value), codeAmong pos ps.toList = some cv → ∃ cob, cv = .ref cob ∧ H cob = some (CodeO cob q)) ∧
  ∀ (H2 : Hp) (cob : Addr), MadeC P cob q ps H H2 → H2 cob = some (CodeO cob q) → TT (fun E H' Q' => t E σ H' Q') H2 Q
section
variable {X : Cx} {pins : List (Addr × Obj)} {σ : L2.St} {H : Hp} {s : Shared}
theorem lam_new2 {c P : Addr} {ps : Array Value} {params : Arguments} {body : Expr} {scope : Scope} {pos : Pos} {E : Value → Shared → Prop} {Q : Value → Shared → Prop} (I : Inv X pins σ H s) (tb : LamX.TabB X.base X.mg c P) (hcode : X.env.code = .ref c)
    (hP : H P = some (.tbl ps)) (ht : TriplesOk ps.toList) (ha : ∀ (pos : Pos) (cv : Value), codeAmong pos ps.toList = some cv → ∃ c', cv = .ref c' ∧ H c' = some (LamX.CodeO c' (X.env.qual ++ "<lambda>")))
    (hdef : defaultsOf params X.env = ([], [])) (hfree : ∀ y ∈ scope.names, y.2 = .free → ∃ c, X.env.cells.lookup y.1 = some c)
    (k : ∀ (f c' : Addr) (pm ctv : Value) (H1 : Hp) (s' : Shared), MadeC P c' (X.env.qual ++ "<lambda>") ps H H1 → Inv X pins σ H1 s' → (∀ b o, b ≠ P → s.heap.get? b = some o → s'.heap.get? b = some o) →
      s'.heap.get? f = some (PySem.W.kla_obj "<lambda>" (X.env.qual ++ "<lambda>") params body scope (cloFrom X.env.cells scope.names []) pm c' ctv) → H1 c' = some (LamX.CodeO c' (X.env.qual ++ "<lambda>")) → H1 f = none → f ∉ frs X.stack → Q (.ref f) s') :
    wpAny (model X.prog X.w) X.A (eval (.Lambda params body scope pos) X.env) Q E s := by
  have tabH := I.hok P _ hP
  have bltP : s.heap.BuiltinsAt X.mg P := tb.bm.keeps I.bk
  have codeP : PySem.W.CodeHd s.heap c P := tb.code.keeps I.bk
  have away : ∀ z, s.heap.objs.size ≤ z → z ∉ frs X.stack := fun z hz hm => by
    rcases List.mem_cons.mp (I.stkSub _ hm) with e | e
    · have lt0 := I.lt
      rw [← e] at lt0
      exact Nat.lt_irrefl _ (Nat.lt_of_lt_of_le lt0 hz)
    · exact I.nofs hz e
  refine PySem.W.kla_eval hdef ?_
  rcases hcm : codeAmong pos ps.toList with _ | cv
  · refine PySem.W.kla_makeFunction (mg := X.mg) (c := c) (P := P) (ps := ps) (closure_ok hfree) I.ok.glob (I.mod.glob.keeps I.bk) hcode codeP tabH ht hcm tb.gP bltP fun c' ctv h' tk hx hge hlt hrec htb => ?_
    obtain ⟨c2, oc, vs, t, e2, hoc, hdc, hvc⟩ := hrec
    cases e2
    have freshC : H c' = none := I.hok.fresh hge
    have neC : c' ≠ P := fun z => by rw [z, hP] at freshC; cases freshC
    refine k h'.objs.size c' ((X.mg "__name__").getD .none) ctv _ _ (.inr ⟨freshC, neC, #[rawInt pos.line, rawInt pos.col, .ref c'], rfl, ?_, fun p2 cv2 hcv => ?_⟩)
      (LamX.inv_table (q := X.env.qual ++ "<lambda>") (t' := tk) (more := #[rawInt pos.line, rawInt pos.col, .ref c'])
        (h' := h'.push (PySem.W.kla_obj "<lambda>" (X.env.qual ++ "<lambda>") params body scope (cloFrom X.env.cells scope.names []) ((X.mg "__name__").getD .none) c' ctv)) I hP
        (fun b o nb e => Heap.get?_push_of_some _ (hx b o nb e)) (Heap.get?_push_of_some _ htb) hge ⟨oc, vs, t, Heap.get?_push_of_some _ hoc, hdc, hvc⟩)
      (fun b o nb e => Heap.get?_push_of_some _ (hx b o nb e)) (Heap.get?_push_size _ rfl) upd_same ?_ (away _ (Nat.le_trans hge (Nat.le_of_lt hlt)))
    · rw [show (ps ++ #[rawInt pos.line, rawInt pos.col, Value.ref c']).toList = ps.toList ++ [rawInt pos.line, rawInt pos.col, .ref c'] by simp]
      exact PySem.TriplesOk_snoc _ _ _ _ ht
    · rw [show (ps ++ #[rawInt pos.line, rawInt pos.col, Value.ref c']).toList = ps.toList ++ [rawInt pos.line, rawInt pos.col, .ref c'] by simp] at hcv
      exact LamX.among_app _ ht hcv
    · rw [upd_ne (Nat.ne_of_gt hlt), upd_ne (Nat.ne_of_gt (Nat.lt_of_lt_of_le (Heap.lt_size tabH) (Nat.le_trans hge (Nat.le_of_lt hlt))))]
      exact I.hok.fresh (Nat.le_trans hge (Nat.le_of_lt hlt))
  · obtain ⟨c', e, hco⟩ := ha pos cv hcm
    subst e
    refine PySem.W.kla_makeFunctionHit (mg := X.mg) (c := c) (P := P) (ps := ps) (closure_ok hfree) I.ok.glob (I.mod.glob.keeps I.bk) hcode codeP tabH ht hcm bltP fun ctv h' tk hx hsz => ?_
    exact k h'.objs.size c' ((X.mg "__name__").getD .none) ctv H _ (.inl rfl) (I.kept fun b o e => Heap.get?_push_of_some _ (hx b o e)) (fun b o _ e => Heap.get?_push_of_some _ (hx b o e)) (Heap.get?_push_size _ rfl) hco (I.hok.fresh hsz) (away _ hsz)
end
section
variable {X : Cx}
theorem pe_lamX {x a : Str} {st : Stmt} {gd c P : Addr} {fd : FuncData} {Ng : List Str} {k : Nat} {TT : (XK → Hp → VK → Prop) → Hp → VK → Prop} {prs : Arguments} {bd : Expr} {sco : Scope} {t : XK → TE} {p lpos pos : Pos}
    (hg : Gl X x) (hm : X.mg x = some (.ref gd)) (F : L2.Fun X.K x x st gd fd) (hb : Binds X.K fd [a] []) (Sg : FnScope Ng [a] (defScope st)) (hN : Ng[0]? = some a) (hva : Vis (defScope st) a)
    (hG : GivesX X.prog X.w X.K X.mg X.base (k + 1) x st gd Ng a TT) (hgd : X.A.guards = some []) (TB : TabB X.base X.mg c P) (hcode : X.env.code = .ref c) (hr : Room (k + 2) X.A) (L : LamS X.env.scope sco) (hdef : defaultsOf prs X.env = ([], []))
    (hbind : ∀ (q : Str) (cl : List (Str × Addr)) (pm cv ctv : Value), bindArgs (PySem.W.kla_fn "<lambda>" q prs bd sco cl pm cv ctv) ⟨[], []⟩ = pure [])
    (hbody : ∀ (A : Around) (outer : List Env) (s : Shared) (H : Hp) (E : XK) (fl cob : Addr), Room k (A.deeper (lamEnv X sco s.heap.objs.size fl cob)) → PE (lamCx X A outer s H E sco fl cob) bd (t E))
    (hdb : (x == ("__debug__" : Str)) = false := by decide) (hd : (a == ("__debug__" : Str)) = false := by decide) (hcd : (a == ("__classdict__" : Str)) = false := by decide) :
    PE X (.Call (.Name x p) [.Lambda prs bd sco lpos] [] pos) (tLamX P (X.env.qual ++ "<lambda>") TT t) := by
  constructor
  rintro pins s σ H Q I ⟨ps, hP, ht, ha, h⟩
  obtain ⟨oc, od, kV, doc, pm, an, cdv, ct, osl, rfl, lk, hcd2⟩ := F.ex
  refine wpAny_Call_Name_kw (ld_glob I hg hm ?_ hdb)
  refine PySem.W.callWith_K (h₀ := X.base) I.ok.mod.kin F.kp ?_ (by rfl) (by rfl)
  show wpAny _ _ (spliced ((false, eval (.Lambda prs bd sco lpos) X.env) :: backTo pos (starEach [] X.env))) _ _ s
  refine Calls.spliced_cons (lam_new2 I TB hcode hP ht ha hdef (L.has I.ok) fun fl cob pm2 ctv H2 s2 mk I2 _ hf hco hfn hfr => Calls.spliced_nil ⟨I2.kIn, ?_⟩)
  have go : codeAny (model X.prog X.w) X.A (.call (.ref gd) ⟨[.ref fl], []⟩) (CR CX0 X.stack X.prog X.w H2 s2 Q E0) s2 := by
    refine run_ofS (N := Ng) (ps := [a]) (us := [.ref fl]) (vs := [.ref fl]) lk hcd2 Sg hr I2.env0 (hb s2 [.ref fl] I2.kIn rfl) (.cons rfl .nil) rfl fun hr2 => ?_
    obtain ⟨t2, h1, h2⟩ := hG cdv X.A X.stack s2 H2 Q fl cob _ (fun E H' Q' => t E σ H' Q') hgd hr2
      (fun W pn xe p1 p2 tk => pe_actX (i := 0) I2 L hf hfn hfr (hbind _ _ _ _ _) tk hr2 (fun A outer s H E hr3 => hbody A outer s H E fl cob hr3) hN hva hd hcd) hco (h H2 cob mk hco)
    exact ⟨t2, h1.nox, h2⟩
  refine wpAny_call (codeAny_mono go fun r s3 hq => ?_)
  match r, hq with
  | .error e, hq => exact (show False from hq).elim
  | .ok (.ret u), hq => exact I2.after hq
  | .ok .next, hq => exact False.elim hq
  | .ok .brk, hq => exact False.elim hq
  | .ok .cont, hq => exact False.elim hq
end
/-- what a lambda does, whenever it is called from a heap that goes on from H -/
def LamD (K : PySem.W.Frag) (B H : Hp) (R : Out → Prop) (tl : XK → Hp → VK → Prop) : Prop := ∀ (B1 H1 : Hp) (E : XK) (Q : VK), Same B B1 → SameN H H1 → SameB B1 H1 → (∀ a, H a ≠ none → B a = none → B1 a = none) →
  (∀ d v B2 H2, R (.ret d) → Same B1 B2 → SameN H1 H2 → SameB B2 H2 → (∀ a, H1 a ≠ none → B1 a = none → B2 a = none) → Is K B2 v d → Q v H2) →
  (∀ C f d v dd B2 H2, R (.exc C f d) → Same B1 B2 → SameN H1 H2 → SameB B2 H2 → (∀ a, H1 a ≠ none → B1 a = none → B2 a = none) → B2 dd = some (.xd [(f, v)]) → Is K B2 v d → E (.ref C) (some dd) H2) → tl E H1 Q
/-- what a def makes of a lambda: of its outcomes R something that RES tells -/
def SpL (K : PySem.W.Frag) (pre : (Out → Prop) → Prop) (RES : (Out → Prop) → D → Prop) : (XK → Hp → VK → Prop) → Hp → VK → Prop := fun tl H Q =>
  ∃ (B : Hp) (R : Out → Prop), SameB B H ∧ pre R ∧ LamD K B H R tl ∧
    ∀ d v B2 H2, RES R d → Same B B2 → SameN H H2 → SameB B2 H2 → (∀ a, H a ≠ none → B a = none → B2 a = none) → Is K B2 v d → Q v H2
def datOnly (ρ : Ro) : Ro := ρ.map fun s => match s with
  | some (.dat d) => some (.dat d)
  | _ => none
def ZOf (B H : Hp) : Addr → Prop := fun a => H a ≠ none ∧ B a = none ∧ NTab a
section
variable {K : PySem.W.Frag} {l : Option Addr} {Z : Addr → Prop} {m m' : Nat} {B B1 B2 H H1 H2 : Hp} {σ : L2.St} {ρ : Ro}
theorem datOnly_get {i : Nat} {s : Sl} (h : (datOnly ρ)[i]? = some (some s)) : ∃ d, s = .dat d ∧ ρ[i]? = some (some (.dat d)) := by
  unfold datOnly at h
  rw [List.getElem?_map, Option.map_eq_some_iff] at h
  obtain ⟨x, hx, e⟩ := h
  cases x with
  | none => cases e
  | some y =>
    cases y with
    | dat d => cases e; exact ⟨d, rfl, hx⟩
    | own _ => cases e
    | hand => cases e
    | obj _ => cases e
theorem Ok.dat (o : Ok K l Z m B H σ ρ) (s : Same B B1) (sb : SameB B1 H1) : Ok K none (ZOf B1 H1) 0 B1 H1 σ (datOnly ρ) := by
  refine ⟨⟨sb.1, fun a e => (nomatch e), fun z h => ⟨h.1, h.2.1, nofun, h.2.2⟩, sb.2⟩, ?_, fun i t e => ?_, fun i j s1 t1 a hij ho _ e1 => ?_⟩
  · rw [o.len, datOnly, List.length_map]
  · obtain ⟨d, rfl, e2⟩ := datOnly_get e
    obtain ⟨v, e3, q⟩ := o.sl i _ e2
    exact ⟨v, e3, Is.mono s q⟩
  · obtain ⟨d, rfl, _⟩ := datOnly_get e1
    cases ho
/-- behind a run that kept all that was not known -/
theorem zof_back (o : Bs none (ZOf B1 H1) m' B2 H2) (f : Fr (ZOf B1 H1) B1 H1 B2 H2) (sb : Same B1 H1) : SameN H1 H2 ∧ SameB B2 H2 ∧ ∀ a, H1 a ≠ none → B1 a = none → B2 a = none := by
  refine ⟨fun b u nt e => ?_, ⟨o.sub, o.tab⟩, fun a h1 h2 => (Classical.em (NTab a)).elim (fun nt => (o.zs a ⟨h1, h2, nt⟩).2.1) fun nt => o.tab.out nt⟩
  cases q : B1 b with
  | none => rw [f.kept b ⟨by rw [e]; exact nofun, q, nt⟩]; exact e
  | some x =>
    rw [sb b x q] at e
    cases e
    exact o.sub b _ (f.sub b _ q)
end
section
variable {K : PySem.W.Frag} {l : Option Addr} {ρ : Ro} {m : Nat} {Φ : Nat → D → Prop}
theorem e_lamX {P : Addr} {q : Str} {t : XK → TE} {R : Out → Prop} {pre : (Out → Prop) → Prop} {RES : (Out → Prop) → D → Prop} (hq : (P, q) ∈ tabs) (hu : ∀ p ∈ tabs, p.1 = P → p.2 = q) (hp : pre R)
    (h : ∀ E : XK, EvX K none (fun c d _ H' => E c d H') (t E) (datOnly ρ) 0 (fun _ d => R (.ret d)) fun _ _ C f d => R (.exc C f d)) (hΦ : ∀ d, RES R d → Φ m d) : EvC K l (tLamX P q (SpL K pre RES) t) ρ m Φ := by
  intro Z B H σ Q ok k
  obtain ⟨_, ps, e1, e2, e3⟩ := ok.tab _ hq
  refine ⟨ps, e1, e2, fun pos cv hc => ?_, fun H2 cob mk hco => ?_⟩
  · obtain ⟨c, w1, w2⟩ := e3 pos cv hc
    exact ⟨c, w1, ok.sub _ _ w2⟩
  obtain ⟨B2, o2, f2⟩ := ok.made hq hu e1 mk
  refine ⟨B2, R, ⟨o2.sub, o2.tab⟩, hp, fun B3 H3 E Q3 s1 s2 s3 fr kr kx => ?_, fun d v B3 H3 hr s1 s2 s3 fr iv => ?_⟩
  · refine h E _ B3 H3 σ Q3 (o2.dat s1 s3) (fun v d m4 B4 H4 o4 f4 i4 g4 => ?_) fun C f d v dd σ4 ρ4 m4 B4 H4 o4 f4 hd i4 g4 => ?_
    · obtain ⟨a1, a2, a3⟩ := zof_back o4.toBs f4 s3.1
      exact kr d v B4 H4 g4 f4.sub a1 a2 a3 i4
    · obtain ⟨a1, a2, a3⟩ := zof_back o4.toBs f4 s3.1
      exact kx C f d v dd B4 H4 g4 f4.sub a1 a2 a3 hd i4
  · obtain ⟨o3, f3⟩ := o2.step (m' := m) s1 s3
      (fun a e => by
        obtain ⟨g, z, c, w, r⟩ := (o2.hand a e).1
        exact ⟨g, z, c, s2 _ _ (o2.tab.ntLst w) w, r⟩)
      (fun a o n e => s2 a o n.2 e) fr
    exact k v d m B3 H3 o3 (f2.trans f3) iv (hΦ d hr)
end
section
variable {P : Program} {w : World} {K : PySem.W.Frag} {mg : Str → Option Value} {base : Heap}
theorem GivesX.mono {j k : Nat} {x a : Str} {st : Stmt} {gd : Addr} {Ng : List Str} {TT : (XK → Hp → VK → Prop) → Hp → VK → Prop} (G : GivesX P w K mg base j x st gd Ng a TT) (h : j ≤ k) : GivesX P w K mg base k x st gd Ng a TT :=
  fun cdv A outer s H Q fl cob q tl hG hr => G cdv A outer s H Q fl cob q tl hG (hr.mono h)
/-- a def that makes a lambda, its body read where no repr is under way -/
theorem okGL {x qual : Str} {st : Stmt} {f c : Addr} {fd : FuncData} {N ps : List Str} {k : Nat} {sp : Sp} (F : L2.Fun K x qual st f fd) (hc : fd.code = .ref c) (S : FnScope N ps (defScope st)) (hl : ∀ vs H Q E, sp vs H Q E → vs.length = ps.length)
    (hb : ∀ (A : Around) (outer : List Env) (s : Shared) (H : Hp) (vs : List V) (Q : VK) (E : XK), A.guards = some [] → Room k (A.deeper (envOfC qual (defScope st) s.heap.objs.size f (.ref c))) → sp vs H Q E →
      ∃ t, PSs (cxOf CX0 P w K mg base N qual (defScope st) f (.ref c) A outer s H E).nox (defBody st) t ∧ t { nx := fun _ H' => Q .non H', rt := Q } (start N vs) H) : FnG P w K mg base CX0 (k + 1) f fd ps sp := by
  obtain ⟨oc, od, kV, doc, pm, an, cd2, ct, osl, rfl, lk, hcd⟩ := F.ex
  have e : cd2 = .ref c := hc
  subst e
  refine ⟨hl, fun A outer s H args us vs Q E hG hr e0 hbd r hsp => ?_⟩
  exact run_ofS (N := N) (ps := ps) lk hcd S hr e0 hbd r (hl _ _ _ _ hsp) fun hr2 => let ⟨t, a, b⟩ := hb A outer s H vs Q E hG hr2 hsp; ⟨t, a.nox, b⟩
end
end Wt

namespace Wt
open PySem PySem.Spec PyProof.Rows L2 LamX
section
variable {K : PySem.W.Frag} {l : Option Addr} {ρ : Ro} {m : Nat} {Φ : Nat → D → Prop}
theorem only2 {s u t : Sl} {i : Nat} (e : ([none, none, some s, some u] : Ro)[i]? = some (some t)) : (i = 2 ∧ t = s) ∨ (i = 3 ∧ t = u) := by
  match i, e with
  | 0, e => cases e
  | 1, e => cases e
  | 2, e => exact .inl ⟨rfl, by cases e; rfl⟩
  | 3, e => exact .inr ⟨rfl, by cases e; rfl⟩
  | n + 4, e => simp at e
/-- (told and caught are None) try: told = ask(); except c as e: caught = e; rest -/
theorem run_ask2c {fl cob : Addr} {q : Str} {tl : XK → Hp → VK → Prop} {pre : (Out → Prop) → Prop} {RES : (Out → Prop) → D → Prop} {c : Value} {tRest : TS} {Wout : WX} {H : Hp} {Q : VK} (hc : H cob = some (CodeO cob q)) (hT : SpL K pre RES tl H Q)
    (hret : ∀ R, pre R → ∀ d, R (.ret d) → SvC K none tRest [none, none, some (.dat d), some (.dat .non)] 0 (fun _ _ => RES R .non) (fun _ d => RES R d))
    (hexc : ∀ R, pre R → ∀ C f d, R (.exc C f d) → PySem.W.exmOne K (.ref C) c = some true ∧ SvC K none tRest [none, none, some (.dat .non), some (.obj (exR K C f d))] 0 (fun _ _ => RES R .non) (fun _ d => RES R d)) :
    tSeq (fun D σ H => tAsg (tAct 0 fl cob q (wKn K c 1 (tAsg (tVar 1) (gName 3)) Wout D) tl) (gName 2) D σ H) tRest { nx := fun _ H' => Q .non H', rt := Q } [some (.ref fl), none, some .non, some .non] H := by
  obtain ⟨B, R, sb, hp, hL, kk⟩ := hT
  have end_ : ∀ {B3 H3 : Hp} {m4 : Nat} {B4 H4 : Hp}, Bs none (ZOf B3 H3) m4 B4 H4 → Fr (ZOf B3 H3) B3 H3 B4 H4 → True := fun _ _ => trivial
  refine ⟨_, fun _ _ _ h => h, rfl, hc, hL B H _ _ (Same.refl B) (fun _ _ _ h => h) sb (fun _ _ h => h) (fun d v B2 H2 hR s1 s2 s3 fr iv => ?_) fun C f d v dd B2 H2 hR s1 s2 s3 fr hd iv => ?_⟩
  · have o2 : Ok K none (ZOf B2 H2) 0 B2 H2 [some (.ref fl), none, some v, some .non] [none, none, some (.dat d), some (.dat .non)] := by
      refine ⟨⟨s3.1, fun a e => (nomatch e), fun z h => ⟨h.1, h.2.1, nofun, h.2.2⟩, s3.2⟩, rfl, fun i t e => ?_, fun i j s1 t1 a hij ho _ e1 => ?_⟩
      · rcases only2 e with ⟨rfl, rfl⟩ | ⟨rfl, rfl⟩
        · exact ⟨v, rfl, iv⟩
        · exact ⟨.non, rfl, .non⟩
      · rcases only2 e1 with ⟨rfl, rfl⟩ | ⟨rfl, rfl⟩ <;> cases ho
    have fin : ∀ v d m3 B3 H3, Bs none (ZOf B2 H2) m3 B3 H3 → Fr (ZOf B2 H2) B2 H2 B3 H3 → Is K B3 v d → RES R d → Q v H3 := fun v d m3 B3 H3 o3 f3 i3 g3 => by
      obtain ⟨a1, a2, a3⟩ := zof_back o3 f3 s3.1
      refine kk d v B3 H3 g3 (s1.trans f3.sub) (fun b u nt e => a1 b u nt (s2 b u nt e)) a2 (fun a h1 h2 => (Classical.em (NTab a)).elim (fun nt => a3 a ?_ (fr a h1 h2)) fun nt => a2.2.out nt) i3
      cases e : H a with
      | none => exact absurd e h1
      | some u => rw [s2 a u nt e]; exact nofun
    exact hret R hp d hR _ B2 H2 _ _ o2 (fun σ' ρ' m3 B3 H3 o3 f3 g3 => fin .non .non m3 B3 H3 o3.toBs f3 .non g3) fun v d m3 B3 H3 o3 f3 i3 g3 => fin v d m3 B3 H3 o3 f3 i3 g3
  · obtain ⟨x1, x2⟩ := hexc R hp C f d hR
    refine ⟨true, x1, fun _ a ha => ⟨_, rfl, ?_⟩, fun z => nomatch z⟩
    have hBa : B2 a = none := by
      cases e : B2 a with
      | none => rfl
      | some u => rw [s3.1 a u e] at ha; cases ha
    have nta : NTab a := s3.2.ntNone ha
    have sb3 : SameB B2 (upd H2 a (exh a (.ref C) (some dd))) := ⟨fun b u e => by
      rw [upd_ne fun z => by rw [z, hBa] at e; cases e]
      exact s3.1 b u e, s3.2.write nta⟩
    have o2 : Ok K none (fun b => H2 b ≠ none ∧ B2 b = none ∧ NTab b) 0 B2 (upd H2 a (exh a (.ref C) (some dd))) [some (.ref fl), none, some .non, some (.ref a)] [none, none, some (.dat .non), some (.obj (exR K C f d))] := by
      refine ⟨⟨sb3.1, fun a e => (nomatch e), fun z h => ⟨?_, h.2.1, nofun, h.2.2⟩, sb3.2⟩, rfl, fun i t e => ?_, fun i j s1 t1 b hij ho ho2 e1 e2 => ?_⟩
      · rw [upd_ne fun e => h.1 (by rw [e]; exact ha)]
        exact h.1
      · rcases only2 e with ⟨rfl, rfl⟩ | ⟨rfl, rfl⟩
        · exact ⟨.non, rfl, .non⟩
        exact ⟨.ref a, rfl, a, _, rfl, upd_same, hBa, fun z => z.1 ha, ⟨nofun, nta⟩, ⟨dd, v, rfl, hd, iv⟩, fun B1 B2 s => exR_mono B1 B2 a _ s⟩
      · rcases only2 e1 with ⟨rfl, rfl⟩ | ⟨rfl, rfl⟩
        · cases ho
        rcases only2 e2 with ⟨rfl, rfl⟩ | ⟨rfl, rfl⟩
        · cases ho2
        exact absurd rfl hij
    have fin : ∀ v d m3 B3 H3, Bs none (fun b => H2 b ≠ none ∧ B2 b = none ∧ NTab b) m3 B3 H3 → Fr (fun b => H2 b ≠ none ∧ B2 b = none ∧ NTab b) B2 (upd H2 a (exh a (.ref C) (some dd))) B3 H3 → Is K B3 v d → RES R d → Q v H3 := fun v d m3 B3 H3 o3 f3 i3 g3 => by
      have at_ : ∀ b, H2 b ≠ none → upd H2 a (exh a (.ref C) (some dd)) b = H2 b := fun b hb => upd_ne fun e => hb (by rw [e]; exact ha)
      refine kk d v B3 H3 g3 (s1.trans f3.sub) (fun b u nt e => ?_) ⟨o3.sub, o3.tab⟩ (fun b h1 h2 => (Classical.em (NTab b)).elim (fun nt => ?_) fun nt => o3.tab.out nt) i3
      · have e2 := s2 b u nt e
        cases q : B2 b with
        | none =>
          rw [f3.kept b ⟨by rw [e2]; exact nofun, q, nt⟩, at_ b (by rw [e2]; exact nofun)]
          exact e2
        | some x =>
          rw [s3.1 b x q] at e2
          cases e2
          exact o3.sub b _ (f3.sub b _ q)
      · have h3 : H2 b ≠ none := by
          cases e : H b with
          | none => exact absurd e h1
          | some u => rw [s2 b u nt e]; exact nofun
        exact (o3.zs b ⟨h3, fr b h1 h2, nt⟩).2.1
    exact x2 _ B2 _ _ _ o2 (fun σ' ρ' m3 B3 H3 o3 f3 g3 => fin .non .non m3 B3 H3 o3.toBs f3 .non g3) fun v d m3 B3 H3 o3 f3 i3 g3 => fin v d m3 B3 H3 o3 f3 i3 g3
theorem spL_new {pre : (Out → Prop) → Prop} {RES : (Out → Prop) → D → Prop} {tl : XK → Hp → VK → Prop} {H : Hp} {Q : VK} {p : Addr} {o : HO} (h : SpL K pre RES tl H Q) (hp : H p = none) : SpL K pre RES tl (upd H p o) Q := by
  obtain ⟨B, R, sb, hr, hL, kk⟩ := h
  have hB : B p = none := by
    cases e : B p with
    | none => rfl
    | some u => rw [sb.1 p u e] at hp; cases hp
  have ne : ∀ a, H a ≠ none → a ≠ p := fun a h e => h (by rw [e]; exact hp)
  have s0 : Same B (upd B p o) := same_new hB
  have n0 : SameN H (upd H p o) := fun b u _ e => by rw [upd_ne (ne b (by rw [e]; exact nofun))]; exact e
  have nt : NTab p := sb.2.ntNone hp
  refine ⟨upd B p o, R, ⟨fun b u e => ?_, (sb.2.write nt).tell nt s0⟩, hr, fun B1 H1 E Q1 s1 s2 s3 fr => hL B1 H1 E Q1 (s0.trans s1) (fun b u n e => s2 b u n (n0 b u n e)) s3 fun a h1 h2 => fr a ?_ ?_, fun d v B2 H2 hd s1 s2 s3 fr => kk d v B2 H2 hd (s0.trans s1) (fun b u n e => s2 b u n (n0 b u n e)) s3 fun a h1 h2 => fr a ?_ ?_⟩
  · by_cases z : b = p
    · subst z
      rw [upd_same] at e ⊢
      exact e
    · rw [upd_ne z] at e ⊢
      exact sb.1 b u e
  all_goals first
    | (rw [upd_ne (ne a h1)]; exact h1)
    | (rw [upd_ne (ne a h1)]; exact h2)
/-- told, caught = None, None; try: told = ask(); except c as e: caught = e; rest -/
theorem run_ask2 {n : Nat} {fl cob : Addr} {q : Str} {tl : XK → Hp → VK → Prop} {pre : (Out → Prop) → Prop} {RES : (Out → Prop) → D → Prop} {c : Value} {tRest : TS} {Wout : WX} {H : Hp} {Q : VK} (hn : 2 = n) (hc : H cob = some (CodeO cob q)) (hT : SpL K pre RES tl H Q)
    (hret : ∀ R, pre R → ∀ d, R (.ret d) → SvC K none tRest [none, none, some (.dat d), some (.dat .non)] 0 (fun _ _ => RES R .non) (fun _ d => RES R d))
    (hexc : ∀ R, pre R → ∀ C f d, R (.exc C f d) → PySem.W.exmOne K (.ref C) c = some true ∧ SvC K none tRest [none, none, some (.dat .non), some (.obj (exR K C f d))] 0 (fun _ _ => RES R .non) (fun _ d => RES R d)) :
    tSeq (tAsg (tTupC (tCons (tC .non) (tCons (tC .non) tNil))) (gTup K n (gCons (gName 2) (gCons (gName 3) gNil))))
      (tSeq (fun D σ H => tAsg (tAct 0 fl cob q (wKn K c 1 (tAsg (tVar 1) (gName 3)) Wout D) tl) (gName 2) D σ H) tRest) { nx := fun _ H' => Q .non H', rt := Q } [some (.ref fl), none, none, none] H := by
  subst hn
  refine ⟨by decide, fun p ob hp hd _ => ⟨p, [.non, .non], rfl, .inl (.inr ⟨ob, upd_same⟩), rfl, .non, [.non], rfl, .non, [], rfl, rfl, ?_⟩⟩
  exact run_ask2c (by rw [upd_ne (ne_of_none hc hp)]; exact hc) (spL_new hT hp) hret hexc
end
end Wt

namespace Wt
open PySem PySem.Spec PyProof.Rows L2
section
variable {K : PySem.W.Frag} {l : Option Addr} {ρ : Ro} {m : Nat}
variable {te : TE} {tA : TA} {Nx : Nat → Ro → Prop} {Rt : Nat → D → Prop}
theorem s_ownLcR2f {j p : Nat} (hj : ρ[j]? = some none)
    (h : AvC K l tA ρ m fun m1 as => ∃ a b : Nat, as = [.int a, .int b] ∧ a ≤ 50000 ∧ b ≤ 50000 ∧
      ∃ f : Nat → D, (∀ t : Nat, t < b - a → EvC K l te (ρ.set j (some (.dat (.int (a + t : Nat))))) m1 fun n2 y => n2 = m1 ∧ y = f t) ∧
      Nx m1 (ρ.set p (some (.own ((List.range (b - a)).map f))))) :
    SvC K l (tAsg (tLc (iRng2 tA) (gName j) tYes te [j]) (gName p)) ρ m Nx Rt := by
  intro Z B H σ W ok k _
  refine h Z B H σ _ ok fun vs x m1 B1 H1 o1 f1 i1 g1 => ?_
  obtain ⟨a, b, rfl, ha, hb, f, he, hq⟩ := g1
  obtain ⟨v, w, rfl, z1, z2⟩ := isAll2 i1
  cases z1
  cases z2
  refine ⟨(a : Int), (b : Int), rfl, ⟨by omega, by omega, by omega, by omega⟩, fun A hA => ?_⟩
  have hba : ((b : Int) - (a : Int)).toNat = b - a := by omega
  rw [hba]
  have hz : ¬ Z A := fun z => (o1.zs A z).1 hA
  refine lc_range (lo := (a : Int)) (n := b - a) (LcW K l Z ρ σ B1 H1 A fun i n acc => n = m1 ∧ acc = ((List.range (b - a)).map f).take i)
    (lcw_start o1 hA ⟨rfl, rfl⟩) (fun i H' hi w => ?_) fun H' w => ?_
  · have e0 : (a : Int) + (i : Int) = ((a + i : Nat) : Int) := by omega
    rw [e0]
    refine lcw_turn (P := fun d => d = .int (a + i : Nat)) hz hj w
      (fun B' sb => ⟨_, .int _, rfl⟩) (by omega) fun d n acc e hI _ => ?_
    subst e
    obtain ⟨rfl, rfl⟩ := hI
    refine e_imp (he i hi) fun n2 y q => ?_
    obtain ⟨rfl, rfl⟩ := q
    refine ⟨rfl, (take_snoc' ?_).symm⟩
    rw [List.getElem?_map, List.getElem?_range hi]; rfl
  · obtain ⟨n, acc, zs, B', ok', fr', hA', is', hI, hlen⟩ := w
    obtain ⟨rfl, rfl⟩ := hI
    rw [List.take_of_length_le (by simp)] at is'
    exact k _ _ n B' H' (ok'.setOwn hz hA' is') (f1.trans fr') hq
end
end Wt
local macro_rules | `(tactic| walk_at "ro") => `(tactic| (try dsimp only [Wt.put, Wt.r_set0, Wt.r_set1, Wt.r_map0, Wt.r_map1, Wt.r_app0, Wt.r_app1]))
local macro_rules | `(tactic| walk_at "ev1") => `(tactic| first
  | with_reducible refine Wt.s_seq ?_ | with_reducible refine Wt.s_ret ?_
  | ((with_reducible refine Wt.s_par ?_); (walk_at "ro")) | ((with_reducible refine Wt.s_repOwn ?_); (walk_at "ro")) | ((with_reducible refine Wt.s_asg ?_); (walk_at "ro"))
  | with_reducible refine Wt.s_if ?_ | with_reducible refine Wt.s_next ?_
  | with_reducible refine Wt.t_or ?_ | with_reducible refine Wt.t_and ?_
  | with_reducible refine Wt.t_not ?_ | with_reducible refine Wt.t_test ?_
  | with_reducible refine Wt.t_B ?_ | with_reducible refine Wt.e_andV ?_
  | with_reducible refine Wt.e_orV ?_ | with_reducible refine Wt.e_notV ?_
  | with_reducible refine Wt.e_if ?_ | with_reducible refine Wt.e_chain ?_
  | ((with_reducible refine Wt.e_hand0 (by with_unfolding_all rfl) ?_); (intro _ _ _))
  | ((with_reducible refine Wt.e_hand1 (by with_unfolding_all rfl) ?_); (intro _ _ _))
  | ((with_reducible refine Wt.e_hand2 (by with_unfolding_all rfl) ?_); (intro _ _ _))
  | with_reducible refine Wt.e_op ?_ | with_reducible refine Wt.e_un ?_
  | with_reducible refine Wt.e_isi Wt.kit_int ?_
  | with_reducible refine Wt.e_isi Wt.kit_bool ?_
  | with_reducible refine Wt.e_isi Wt.kit_tup ?_
  | with_reducible refine Wt.e_cb ?_ | with_reducible refine Wt.e_tup ?_
  | with_reducible refine Wt.e_lst ?_ | with_reducible refine Wt.a_cons ?_
  | with_reducible refine Wt.a_nil ?_ | with_reducible refine Wt.e_int ?_
  | with_reducible refine Wt.e_bl ?_ | with_reducible refine Wt.e_non ?_
  | with_reducible refine Wt.e_str ?_
  | with_reducible refine Wt.e_var (by with_unfolding_all rfl) ?_
  | with_reducible refine Wt.e_dic0 ?_ | with_reducible refine Wt.e_dic1 ?_
  | with_reducible refine Wt.e_callP ?_ | with_reducible refine Wt.e_callR ?_
  | with_reducible refine Wt.e_callH (by with_unfolding_all rfl) ?_
  | with_reducible refine Wt.e_revT ?_ | with_reducible refine Wt.e_tupRg ?_
  | with_reducible refine Wt.e_lstRg ?_ | with_reducible refine Wt.e_slL ?_
  | with_reducible refine Wt.e_make ?_
  | with_reducible refine Wt.e_fld1 (by assumption) ?_
  | with_reducible refine Wt.e_fld2 (by assumption) (by decide) ?_
  | ((with_reducible refine Wt.s_par3 ?_); (walk_at "ro"))
  | with_reducible refine Wt.e_slT ?_ | with_reducible refine Wt.o_none ?_
  | with_reducible refine Wt.o_some ?_
  | with_reducible refine Wt.v_I0 ?_ | with_reducible refine Wt.v_B0 ?_
  | ((with_reducible refine Wt.v_I ?hc ?_); (case hc => first | decide | exact ⟨by decide, by decide, by decide⟩ | exact ⟨by decide, by decide⟩ | exact .inl ⟨by decide, by decide⟩ | exact .inr ⟨by decide, by decide⟩ | assumption))
  | with_reducible refine Wt.v_lenT ?_ | with_reducible refine Wt.v_lenL ?_
  | with_reducible refine Wt.v_neSame ?_ | with_reducible refine Wt.v_eqSame ?_
  | with_reducible refine Wt.v_repr (by assumption) ?_
  | with_reducible refine Wt.v_isNn ?_
  | with_reducible refine Wt.v_lenS ?_ | with_reducible refine Wt.v_eqS ?_
  | with_reducible refine Wt.v_neS ?_ | with_reducible refine Wt.v_abs ?_
  | with_reducible refine Wt.v_intB ?_ | with_reducible refine Wt.v_max2 ?_
  | with_reducible refine Wt.v_min2 ?_ | with_reducible refine Wt.v_listT ?_
  | with_reducible refine Wt.v_tupL ?_ | with_reducible refine Wt.v_neg ?_
  | with_reducible refine Wt.v_ixT (by decide) (by with_unfolding_all rfl) ?_
  | with_reducible refine Wt.v_ixL (by decide) (by with_unfolding_all rfl) ?_
  | with_reducible refine Wt.v_ixN (by assumption) ?_
  | with_reducible refine Wt.v_ixNL (by assumption) ?_
  | with_reducible refine Wt.v_eqDi ?_ | with_reducible refine Wt.v_neDi ?_
  | with_reducible refine Wt.v_eqI ?_ | with_reducible refine Wt.v_neI ?_
  | (rw [if_neg Bool.false_ne_true]) | (rw [if_pos (rfl : true = true)])
  | (rw [Bool.not_true]) | (rw [Bool.not_false])
  | with_reducible refine ⟨_, rfl, ?_⟩
  | with_reducible refine ⟨_, _, rfl, rfl, ?_⟩
  | with_reducible refine ⟨_, _, rfl, ?_⟩
  | ((with_reducible refine And.intro ?hz ?_); (case hz => first | rfl | (simp; done)))
  | ((refine Wt.s_unp2 ?_); (walk_at "ro")) | refine Wt.e_methO (by assumption) (by decide) (by decide) ?_)
local macro_rules | `(tactic| walk_at "ev") => `(tactic| (repeat walk_at "ev1"))
local macro_rules | `(tactic| walk_at "body") => `(tactic| (dsimp only [L2.cxOf, L2.Cx.nox, L2.Cx.blk, List.length_cons, List.length_nil, Wt.datR, Wt.r_map0, Wt.r_map1, Nat.reduceAdd, Nat.reduceSub, Nat.zero_add, Wt.r_rep0, Wt.r_rep1, List.replicate, Wt.r_app0, Wt.r_app1]))
namespace Wl
open PySem PySem.Spec PyProof.Rows L2 Wt
def topS (i : Nat) : Stmt := PySem.Challenge.pw_wholeturn_k51_coarser_or_not.main.body.getD i (.Pass ⟨0, 0, 0, 0⟩)
def inS (i j : Nat) : Stmt := match topS i with
  | .ClassDef _ _ _ b _ _ _ _ _ _ _ => b.getD j (.Pass ⟨0, 0, 0, 0⟩)
  | _ => .Pass ⟨0, 0, 0, 0⟩
theorem xb_NoMeasure : We.ExB (inS 6 0) "thing" "NoMeasure.__init__" :=
  ⟨⟨_, _, _, _, _, _, _, _, _, _, _, rfl, fun env => ⟨_, rfl⟩⟩, fun _ _ _ _ _ _ _ _ _ => rfl, ⟨_, rfl, rfl⟩, by decide +kernel, rfl, rfl, rfl, rfl, rfl, rfl, rfl, by decide, by decide⟩
abbrev s_is_whole : Stmt := topS 10
theorem sc_is_whole : FnScope ["thing"] ["thing"] (defScope s_is_whole) :=
  ⟨rfl, rfl, rfl, by decide +kernel, rfl, by decide +kernel, by decide +kernel⟩
theorem bi_is_whole {K : PySem.W.Frag} {f : Addr} {fd : FuncData}
    (F : Fun K "is_whole" "is_whole" s_is_whole f fd) : Binds K fd ["thing"] [] :=
  F.binds fun _ _ _ _ _ _ us hl => match us, hl with | [_], _ => rfl
abbrev s_is_within : Stmt := topS 11
theorem sc_is_within : FnScope ["thing", "least", "most"] ["thing", "least", "most"] (defScope s_is_within) :=
  ⟨rfl, rfl, rfl, by decide +kernel, rfl, by decide +kernel, by decide +kernel⟩
theorem bi_is_within {K : PySem.W.Frag} {f : Addr} {fd : FuncData}
    (F : Fun K "is_within" "is_within" s_is_within f fd) : Binds K fd ["thing", "least", "most"] [] :=
  F.binds fun _ _ _ _ _ _ us hl => match us, hl with | [_, _, _], _ => rfl
abbrev s_product : Stmt := topS 12
theorem sc_product : FnScope ["numbers", "result", "number"] ["numbers"] (defScope s_product) :=
  ⟨rfl, rfl, rfl, by decide +kernel, rfl, by decide +kernel, by decide +kernel⟩
theorem bi_product {K : PySem.W.Frag} {f : Addr} {fd : FuncData}
    (F : Fun K "product" "product" s_product f fd) : Binds K fd ["numbers"] [] :=
  F.binds fun _ _ _ _ _ _ us hl => match us, hl with | [_], _ => rfl
abbrev s_is_measure : Stmt := topS 18
theorem sc_is_measure : FnScope ["thing", "number"] ["thing"] (defScope s_is_measure) :=
  ⟨rfl, rfl, rfl, by decide +kernel, rfl, by decide +kernel, by decide +kernel⟩
theorem bi_is_measure {K : PySem.W.Frag} {f : Addr} {fd : FuncData}
    (F : Fun K "is_measure" "is_measure" s_is_measure f fd) : Binds K fd ["thing"] [] :=
  F.binds fun _ _ _ _ _ _ us hl => match us, hl with | [_], _ => rfl
abbrev s_Frame_init : Stmt := inS 23 0
theorem sc_Frame_init : FnScope ["self", "measure", "hues"] ["self", "measure", "hues"] (defScope s_Frame_init) :=
  ⟨rfl, rfl, rfl, by decide +kernel, rfl, by decide +kernel, by decide +kernel⟩
theorem bi_Frame_init {K : PySem.W.Frag} {f : Addr} {fd : FuncData}
    (F : Fun K "__init__" "Frame.__init__" s_Frame_init f fd) : Binds K fd ["self", "measure", "hues"] [] :=
  F.binds fun _ _ _ _ _ _ us hl => match us, hl with | [_, _, _], _ => rfl
abbrev s_Frame_eq : Stmt := inS 23 1
theorem sc_Frame_eq : FnScope ["self", "other"] ["self", "other"] (defScope s_Frame_eq) :=
  ⟨rfl, rfl, rfl, by decide +kernel, rfl, by decide +kernel, by decide +kernel⟩
theorem bi_Frame_eq {K : PySem.W.Frag} {f : Addr} {fd : FuncData}
    (F : Fun K "__eq__" "Frame.__eq__" s_Frame_eq f fd) : Binds K fd ["self", "other"] [] :=
  F.binds fun _ _ _ _ _ _ us hl => match us, hl with | [_, _], _ => rfl
abbrev s_are_hues : Stmt := topS 24
theorem sc_are_hues : FnScope ["thing", "hue"] ["thing"] (defScope s_are_hues) :=
  ⟨rfl, rfl, rfl, by decide +kernel, rfl, by decide +kernel, by decide +kernel⟩
theorem bi_are_hues {K : PySem.W.Frag} {f : Addr} {fd : FuncData}
    (F : Fun K "are_hues" "are_hues" s_are_hues f fd) : Binds K fd ["thing"] [] :=
  F.binds fun _ _ _ _ _ _ us hl => match us, hl with | [_], _ => rfl
abbrev s_is_hue : Stmt := topS 25
theorem sc_is_hue : FnScope ["thing"] ["thing"] (defScope s_is_hue) :=
  ⟨rfl, rfl, rfl, by decide +kernel, rfl, by decide +kernel, by decide +kernel⟩
theorem bi_is_hue {K : PySem.W.Frag} {f : Addr} {fd : FuncData}
    (F : Fun K "is_hue" "is_hue" s_is_hue f fd) : Binds K fd ["thing"] [] :=
  F.binds fun _ _ _ _ _ _ us hl => match us, hl with | [_], _ => rfl
abbrev s_is_coarser : Stmt := topS 27
theorem sc_is_coarser : FnScope ["measure", "thing", "number", "part"] ["measure", "thing"] (defScope s_is_coarser) :=
  ⟨rfl, rfl, rfl, by decide +kernel, rfl, by decide +kernel, by decide +kernel⟩
theorem bi_is_coarser {K : PySem.W.Frag} {f : Addr} {fd : FuncData}
    (F : Fun K "is_coarser" "is_coarser" s_is_coarser f fd) : Binds K fd ["measure", "thing"] [] :=
  F.binds fun _ _ _ _ _ _ us hl => match us, hl with | [_, _], _ => rfl
abbrev s_refuse_no_coarser : Stmt := topS 28
theorem sc_refuse_no_coarser : FnScope ["frame", "measure"] ["frame", "measure"] (defScope s_refuse_no_coarser) :=
  ⟨rfl, rfl, rfl, by decide +kernel, rfl, by decide +kernel, by decide +kernel⟩
theorem bi_refuse_no_coarser {K : PySem.W.Frag} {f : Addr} {fd : FuncData}
    (F : Fun K "refuse_no_coarser" "refuse_no_coarser" s_refuse_no_coarser f fd) : Binds K fd ["frame", "measure"] [] :=
  F.binds fun _ _ _ _ _ _ us hl => match us, hl with | [_, _], _ => rfl
abbrev s_rests : Stmt := topS 29
theorem sc_rests : FnScope ["measure", "ties", "tie", "number", "limit"] ["measure", "ties"] (defScope s_rests) :=
  ⟨rfl, rfl, rfl, by decide +kernel, rfl, by decide +kernel, by decide +kernel⟩
theorem bi_rests {K : PySem.W.Frag} {f : Addr} {fd : FuncData}
    (F : Fun K "rests" "rests" s_rests f fd) : Binds K fd ["measure", "ties"] [] :=
  F.binds fun _ _ _ _ _ _ us hl => match us, hl with | [_, _], _ => rfl
abbrev s_coarser_frame : Stmt := topS 30
theorem sc_coarser_frame : FnScope ["frame", "measure"] ["frame", "measure"] (defScope s_coarser_frame) :=
  ⟨rfl, rfl, rfl, by decide +kernel, rfl, by decide +kernel, by decide +kernel⟩
theorem bi_coarser_frame {K : PySem.W.Frag} {f : Addr} {fd : FuncData}
    (F : Fun K "coarser_frame" "coarser_frame" s_coarser_frame f fd) : Binds K fd ["frame", "measure"] [] :=
  F.binds fun _ _ _ _ _ _ us hl => match us, hl with | [_, _], _ => rfl
abbrev s_coarser_place : Stmt := topS 31
theorem sc_coarser_place : FnScope ["frame", "measure", "place", "stem", "says"] ["frame", "measure", "place"] (defScope s_coarser_place) :=
  ⟨rfl, rfl, rfl, by decide +kernel, rfl, by decide +kernel, by decide +kernel⟩
theorem bi_coarser_place {K : PySem.W.Frag} {f : Addr} {fd : FuncData}
    (F : Fun K "coarser_place" "coarser_place" s_coarser_place f fd) : Binds K fd ["frame", "measure", "place"] [] :=
  F.binds fun _ _ _ _ _ _ us hl => match us, hl with | [_, _, _], _ => rfl
abbrev s_coarser_table : Stmt := topS 32
theorem sc_coarser_table : FnScope ["frame", "measure", "table", "row"] ["frame", "measure", "table"] (defScope s_coarser_table) :=
  ⟨rfl, rfl, rfl, by decide +kernel, rfl, by decide +kernel, by decide +kernel⟩
theorem bi_coarser_table {K : PySem.W.Frag} {f : Addr} {fd : FuncData}
    (F : Fun K "coarser_table" "coarser_table" s_coarser_table f fd) : Binds K fd ["frame", "measure", "table"] [] :=
  F.binds fun _ _ _ _ _ _ us hl => match us, hl with | [_, _, _], _ => rfl
abbrev s_coarser_turning : Stmt := topS 33
theorem sc_coarser_turning : FnScope ["frame", "measure", "turning", "leads", "moves"] ["frame", "measure", "turning"] (defScope s_coarser_turning) :=
  ⟨rfl, rfl, rfl, by decide +kernel, rfl, by decide +kernel, by decide +kernel⟩
theorem bi_coarser_turning {K : PySem.W.Frag} {f : Addr} {fd : FuncData}
    (F : Fun K "coarser_turning" "coarser_turning" s_coarser_turning f fd) : Binds K fd ["frame", "measure", "turning"] [] :=
  F.binds fun _ _ _ _ _ _ us hl => match us, hl with | [_, _, _], _ => rfl
abbrev s__law_hand : Stmt := topS 35
theorem sc__law_hand : FnScope ["_law_script", "_law_k", "_law_cell", "_law_great"] ["_law_script", "_law_k"] (defScope s__law_hand) :=
  ⟨rfl, rfl, rfl, by decide +kernel, rfl, by decide +kernel, by decide +kernel⟩
theorem bi__law_hand {K : PySem.W.Frag} {f : Addr} {fd : FuncData}
    (F : Fun K "_law_hand" "_law_hand" s__law_hand f fd) : Binds K fd ["_law_script", "_law_k"] [] :=
  F.binds fun _ _ _ _ _ _ us hl => match us, hl with | [_, _], _ => rfl
abbrev s__law_take : Stmt := topS 36
theorem sc__law_take : FnScope ["_law_hand_here", "_law_many", "_law_prime", "_law_drawn", "_law_digit"] ["_law_hand_here", "_law_many"] (defScope s__law_take) :=
  ⟨rfl, rfl, rfl, by decide +kernel, rfl, by decide +kernel, by decide +kernel⟩
theorem bi__law_take {K : PySem.W.Frag} {f : Addr} {fd : FuncData}
    (F : Fun K "_law_take" "_law_take" s__law_take f fd) : Binds K fd ["_law_hand_here", "_law_many"] [] :=
  F.binds fun _ _ _ _ _ _ us hl => match us, hl with | [_, _], _ => rfl
abbrev s__law_of : Stmt := topS 37
theorem sc__law_of : FnScope ["_law_hand_here", "_law_some"] ["_law_hand_here", "_law_some"] (defScope s__law_of) :=
  ⟨rfl, rfl, rfl, by decide +kernel, rfl, by decide +kernel, by decide +kernel⟩
theorem bi__law_of {K : PySem.W.Frag} {f : Addr} {fd : FuncData}
    (F : Fun K "_law_of" "_law_of" s__law_of f fd) : Binds K fd ["_law_hand_here", "_law_some"] [] :=
  F.binds fun _ _ _ _ _ _ us hl => match us, hl with | [_, _], _ => rfl
abbrev s__law_mixed : Stmt := topS 38
theorem sc__law_mixed : FnScope ["_law_hand_here", "_law_some", "_law_left", "_law_found"] ["_law_hand_here", "_law_some"] (defScope s__law_mixed) :=
  ⟨rfl, rfl, rfl, by decide +kernel, rfl, by decide +kernel, by decide +kernel⟩
theorem bi__law_mixed {K : PySem.W.Frag} {f : Addr} {fd : FuncData}
    (F : Fun K "_law_mixed" "_law_mixed" s__law_mixed f fd) : Binds K fd ["_law_hand_here", "_law_some"] [] :=
  F.binds fun _ _ _ _ _ _ us hl => match us, hl with | [_, _], _ => rfl
abbrev s__law_scale : Stmt := topS 39
theorem sc__law_scale : FnScope ["_law_hand_here", "_law_some"] ["_law_hand_here"] (defScope s__law_scale) :=
  ⟨rfl, rfl, rfl, by decide +kernel, rfl, by decide +kernel, by decide +kernel⟩
theorem bi__law_scale {K : PySem.W.Frag} {f : Addr} {fd : FuncData}
    (F : Fun K "_law_scale" "_law_scale" s__law_scale f fd) : Binds K fd ["_law_hand_here"] [] :=
  F.binds fun _ _ _ _ _ _ us hl => match us, hl with | [_], _ => rfl
abbrev s__law_colours : Stmt := topS 40
theorem sc__law_colours : FnScope ["_law_hand_here", "_law_most", "_law_kinds", "_law_turn"] ["_law_hand_here", "_law_most"] (defScope s__law_colours) :=
  ⟨rfl, rfl, rfl, by decide +kernel, rfl, by decide +kernel, by decide +kernel⟩
theorem bi__law_colours {K : PySem.W.Frag} {f : Addr} {fd : FuncData}
    (F : Fun K "_law_colours" "_law_colours" s__law_colours f fd) : Binds K fd ["_law_hand_here", "_law_most"] [] :=
  F.binds fun _ _ _ _ _ _ us hl => match us, hl with | [_, _], _ => rfl
abbrev s__law_knot : Stmt := topS 41
theorem sc__law_knot : FnScope ["_law_hand_here", "_law_scale_here", "_law_size_here"] ["_law_hand_here", "_law_scale_here"] (defScope s__law_knot) :=
  ⟨rfl, rfl, rfl, by decide +kernel, rfl, by decide +kernel, by decide +kernel⟩
theorem bi__law_knot {K : PySem.W.Frag} {f : Addr} {fd : FuncData}
    (F : Fun K "_law_knot" "_law_knot" s__law_knot f fd) : Binds K fd ["_law_hand_here", "_law_scale_here"] [] :=
  F.binds fun _ _ _ _ _ _ us hl => match us, hl with | [_, _], _ => rfl
abbrev s__law_grid : Stmt := topS 42
theorem sc__law_grid : FnScope ["_law_hand_here", "_law_scale_here", "_law_many", "_law_at", "_law_found", "_law_dense", "_law_bare", "_law_to"] ["_law_hand_here", "_law_scale_here", "_law_many"] (defScope s__law_grid) :=
  ⟨rfl, rfl, rfl, by decide +kernel, rfl, by decide +kernel, by decide +kernel⟩
theorem bi__law_grid {K : PySem.W.Frag} {f : Addr} {fd : FuncData}
    (F : Fun K "_law_grid" "_law_grid" s__law_grid f fd) : Binds K fd ["_law_hand_here", "_law_scale_here", "_law_many"] [] :=
  F.binds fun _ _ _ _ _ _ us hl => match us, hl with | [_, _, _], _ => rfl
abbrev s__law_spot : Stmt := topS 43
theorem sc__law_spot : FnScope ["_law_hand_here", "_law_scale_here", "_law_many", "_law_at", "_law_to"] ["_law_hand_here", "_law_scale_here", "_law_many", "_law_at"] (defScope s__law_spot) :=
  ⟨rfl, rfl, rfl, by decide +kernel, rfl, by decide +kernel, by decide +kernel⟩
theorem bi__law_spot {K : PySem.W.Frag} {f : Addr} {fd : FuncData}
    (F : Fun K "_law_spot" "_law_spot" s__law_spot f fd) : Binds K fd ["_law_hand_here", "_law_scale_here", "_law_many", "_law_at"] [] :=
  F.binds fun _ _ _ _ _ _ us hl => match us, hl with | [_, _, _, _], _ => rfl
abbrev s__law_leads : Stmt := topS 44
theorem sc__law_leads : FnScope ["_law_hand_here", "_law_hues", "_law_left", "_law_hue", "_law_at"] ["_law_hand_here", "_law_hues"] (defScope s__law_leads) :=
  ⟨rfl, rfl, rfl, by decide +kernel, rfl, by decide +kernel, by decide +kernel⟩
theorem bi__law_leads {K : PySem.W.Frag} {f : Addr} {fd : FuncData}
    (F : Fun K "_law_leads" "_law_leads" s__law_leads f fd) : Binds K fd ["_law_hand_here", "_law_hues"] [] :=
  F.binds fun _ _ _ _ _ _ us hl => match us, hl with | [_, _], _ => rfl
abbrev s__law_turning : Stmt := topS 45
theorem sc__law_turning : FnScope ["_law_hand_here", "_law_scale_here", "_law_hues"] ["_law_hand_here", "_law_scale_here", "_law_hues"] (defScope s__law_turning) :=
  ⟨rfl, rfl, rfl, by decide +kernel, rfl, by decide +kernel, by decide +kernel⟩
theorem bi__law_turning {K : PySem.W.Frag} {f : Addr} {fd : FuncData}
    (F : Fun K "_law_turning" "_law_turning" s__law_turning f fd) : Binds K fd ["_law_hand_here", "_law_scale_here", "_law_hues"] [] :=
  F.binds fun _ _ _ _ _ _ us hl => match us, hl with | [_, _, _], _ => rfl
abbrev s__law_near : Stmt := topS 46
theorem sc__law_near : FnScope ["_law_hand_here", "_law_part", "_law_some"] ["_law_hand_here", "_law_part"] (defScope s__law_near) :=
  ⟨rfl, rfl, rfl, by decide +kernel, rfl, by decide +kernel, by decide +kernel⟩
theorem bi__law_near {K : PySem.W.Frag} {f : Addr} {fd : FuncData}
    (F : Fun K "_law_near" "_law_near" s__law_near f fd) : Binds K fd ["_law_hand_here", "_law_part"] [] :=
  F.binds fun _ _ _ _ _ _ us hl => match us, hl with | [_, _], _ => rfl
abbrev s__law_bent : Stmt := topS 47
theorem sc__law_bent : FnScope ["_law_hand_here", "_law_part", "_law_way", "_law_at"] ["_law_hand_here", "_law_part"] (defScope s__law_bent) :=
  ⟨rfl, rfl, rfl, by decide +kernel, rfl, by decide +kernel, by decide +kernel⟩
theorem bi__law_bent {K : PySem.W.Frag} {f : Addr} {fd : FuncData}
    (F : Fun K "_law_bent" "_law_bent" s__law_bent f fd) : Binds K fd ["_law_hand_here", "_law_part"] [] :=
  F.binds fun _ _ _ _ _ _ us hl => match us, hl with | [_, _], _ => rfl
abbrev s__law_size : Stmt := topS 48
theorem sc__law_size : FnScope ["_law_scale_here", "_law_found", "_law_size_here"] ["_law_scale_here"] (defScope s__law_size) :=
  ⟨rfl, rfl, rfl, by decide +kernel, rfl, by decide +kernel, by decide +kernel⟩
theorem bi__law_size {K : PySem.W.Frag} {f : Addr} {fd : FuncData}
    (F : Fun K "_law_size" "_law_size" s__law_size f fd) : Binds K fd ["_law_scale_here"] [] :=
  F.binds fun _ _ _ _ _ _ us hl => match us, hl with | [_], _ => rfl
abbrev s__law_is_scale : Stmt := topS 49
theorem sc__law_is_scale : FnScope ["_law_item", "_law_part"] ["_law_item"] (defScope s__law_is_scale) :=
  ⟨rfl, rfl, rfl, by decide +kernel, rfl, by decide +kernel, by decide +kernel⟩
theorem bi__law_is_scale {K : PySem.W.Frag} {f : Addr} {fd : FuncData}
    (F : Fun K "_law_is_scale" "_law_is_scale" s__law_is_scale f fd) : Binds K fd ["_law_item"] [] :=
  F.binds fun _ _ _ _ _ _ us hl => match us, hl with | [_], _ => rfl
abbrev s__law_due : Stmt := topS 50
theorem sc__law_due : FnScope ["_law_scale_here", "_law_item", "_law_size_here", "_law_part"] ["_law_scale_here", "_law_item"] (defScope s__law_due) :=
  ⟨rfl, rfl, rfl, by decide +kernel, rfl, by decide +kernel, by decide +kernel⟩
theorem bi__law_due {K : PySem.W.Frag} {f : Addr} {fd : FuncData}
    (F : Fun K "_law_due" "_law_due" s__law_due f fd) : Binds K fd ["_law_scale_here", "_law_item"] [] :=
  F.binds fun _ _ _ _ _ _ us hl => match us, hl with | [_, _], _ => rfl
abbrev s__law_asked : Stmt := topS 51
theorem sc__law_asked : FnScope ["_law_ask", "e", "_law_told", "_law_caught"] ["_law_ask"] (defScope s__law_asked) :=
  ⟨rfl, rfl, rfl, by decide +kernel, rfl, by decide +kernel, by decide +kernel⟩
theorem bi__law_asked {K : PySem.W.Frag} {f : Addr} {fd : FuncData}
    (F : Fun K "_law_asked" "_law_asked" s__law_asked f fd) : Binds K fd ["_law_ask"] [] :=
  F.binds fun _ _ _ _ _ _ us hl => match us, hl with | [_], _ => rfl
abbrev s__law_lessened : Stmt := topS 52
theorem sc__law_lessened : FnScope ["_law_item", "_law_part", "_law_number", "_law_size_here"] ["_law_item", "_law_part"] (defScope s__law_lessened) :=
  ⟨rfl, rfl, rfl, by decide +kernel, rfl, by decide +kernel, by decide +kernel⟩
theorem bi__law_lessened {K : PySem.W.Frag} {f : Addr} {fd : FuncData}
    (F : Fun K "_law_lessened" "_law_lessened" s__law_lessened f fd) : Binds K fd ["_law_item", "_law_part"] [] :=
  F.binds fun _ _ _ _ _ _ us hl => match us, hl with | [_, _], _ => rfl
abbrev s__law_doors_right : Stmt := topS 53
theorem sc__law_doors_right : FnScope ["_law_hand_here", "_law_scale_here", "_law_hues", "_law_item", "_law_told", "_law_small", "_law_due_here", "_law_frame", "_law_many", "_law_spot_here", "_law_grid_here", "_law_turn", "_law_kept", "_law_line", "_law_knot_here"] ["_law_hand_here", "_law_scale_here", "_law_hues", "_law_item"] (defScope s__law_doors_right) :=
  ⟨rfl, rfl, rfl, by decide +kernel, rfl, by decide +kernel, by decide +kernel⟩
theorem bi__law_doors_right {K : PySem.W.Frag} {f : Addr} {fd : FuncData}
    (F : Fun K "_law_doors_right" "_law_doors_right" s__law_doors_right f fd) : Binds K fd ["_law_hand_here", "_law_scale_here", "_law_hues", "_law_item"] [] :=
  F.binds fun _ _ _ _ _ _ us hl => match us, hl with | [_, _, _, _], _ => rfl
abbrev s__law_items : Stmt := topS 54
theorem sc__law_items : FnScope ["_law_hand_here", "_law_scale_here", "_law_found", "_law_one", "_law_two", "_law_k", "_law_three"] ["_law_hand_here", "_law_scale_here"] (defScope s__law_items) :=
  ⟨rfl, rfl, rfl, by decide +kernel, rfl, by decide +kernel, by decide +kernel⟩
theorem bi__law_items {K : PySem.W.Frag} {f : Addr} {fd : FuncData}
    (F : Fun K "_law_items" "_law_items" s__law_items f fd) : Binds K fd ["_law_hand_here", "_law_scale_here"] [] :=
  F.binds fun _ _ _ _ _ _ us hl => match us, hl with | [_, _], _ => rfl
abbrev s__law_right : Stmt := topS 55
theorem sc__law_right : FnScope ["_law_hand_here", "_law_item", "_law_scale_here", "_law_hues"] ["_law_hand_here"] (defScope s__law_right) :=
  ⟨rfl, rfl, rfl, by decide +kernel, rfl, by decide +kernel, by decide +kernel⟩
theorem bi__law_right {K : PySem.W.Frag} {f : Addr} {fd : FuncData}
    (F : Fun K "_law_right" "_law_right" s__law_right f fd) : Binds K fd ["_law_hand_here"] [] :=
  F.binds fun _ _ _ _ _ _ us hl => match us, hl with | [_], _ => rfl
abbrev s_law : Stmt := topS 56
theorem sc_law : FnScope ["_law_script", "_law_k"] ["_law_script"] (defScope s_law) :=
  ⟨rfl, rfl, rfl, by decide +kernel, rfl, by decide +kernel, by decide +kernel⟩
def D.whole : D → Bool
  | .int _ => true
  | _ => false
def preWhole (ds : List D) : Prop := ∃ d, ds = [d] ∧ d.own = false
def fWhole : List D → D
  | [d] => .bl (D.whole d)
  | _ => .non
def D.within (a b : Int) : D → Bool
  | .int i => decide (a ≤ i) && decide (i ≤ b)
  | _ => false
def preWithin (ds : List D) : Prop :=
  ∃ d a b, ds = [d, .int a, .int b] ∧ d.own = false
def fWithin : List D → D
  | [d, .int a, .int b] => .bl (D.within a b d)
  | _ => .non
def dints (ns : List Int) : List D := ns.map D.int
def preProd (ds : List D) : Prop :=
  ∃ ns : List Int, ds = [.tup (dints ns)] ∧ ∀ n ∈ ns, 2 ≤ n ∧ n ≤ 5
def D.prod : List D → Int
  | .int i :: r => i * D.prod r
  | _ => 1
def fProd : List D → D
  | [.tup xs] => .int (D.prod xs)
  | _ => .non
def D.meas : D → Bool
  | .tup xs => decide (1 ≤ xs.length) && decide (xs.length ≤ 3) &&
      xs.all (D.within 2 5) && decide (D.prod xs ≤ 30)
  | _ => false
def preMeas (ds : List D) : Prop := ∃ d, ds = [d] ∧ d.plain = true
def fMeas : List D → D
  | [d] => .bl (D.meas d)
  | _ => .non
def preHand (ds : List D) : Prop :=
  ∃ ns k, ds = [.scr ns, .int k] ∧ 0 ≤ k ∧ k ≤ 1000
def takeB : Int := 16 ^ 16 * 125 ^ 140
theorem takeB_of {n : Int} (h : n < 2 ^ 62) : n < takeB := Int.lt_trans h (by unfold takeB; decide +kernel)
theorem takeB_nat {n : Int} (h0 : 0 < n) (h : n < takeB) : n.natAbs < 2 ^ 1100 := by
  have e : takeB.natAbs < 2 ^ 1100 := by unfold takeB; decide +kernel
  refine Nat.lt_of_le_of_lt ?_ e
  omega
def preTake (m : Nat) (ds : List D) : Prop :=
  m < 10000000 ∧ ∃ n : Int, ds = [.int n] ∧ 0 < n ∧ n < takeB
def psiTake (ds : List D) (m m' : Nat) (d : D) : Prop :=
  m' ≤ m + 1 ∧ ∃ n r : Int, ds = [.int n] ∧ d = .int r ∧ 0 ≤ r ∧ r < n
def preOf (m : Nat) (ds : List D) : Prop :=
  m < 10000000 ∧ ∃ c xs, ds = [c] ∧ c.items = some xs ∧ xs ≠ [] ∧
    xs.length < 1000000
def psiOf (ds : List D) (m m' : Nat) (d : D) : Prop :=
  m' ≤ m + 1 ∧ ∃ c xs, ds = [c] ∧ c.items = some xs ∧ d ∈ xs
theorem plain_own {d : D} (h : d.plain = true) : d.own = false := by
  cases d <;> first | rfl | (simp [D.plain] at h)
theorem plains_mem : ∀ {xs : List D} {x : D}, D.plains xs = true → x ∈ xs →
    x.plain = true
  | y :: ys, x, h, hm => by
    rw [D.plains, Bool.and_eq_true] at h
    rcases List.mem_cons.mp hm with rfl | hm
    · exact h.1
    · exact plains_mem h.2 hm
theorem prod_append (ns : List Int) (n : Int) :
    D.prod (dints (ns ++ [n])) = D.prod (dints ns) * n := by
  induction ns with
  | nil => simp [dints, D.prod]
  | cons a r ih =>
    have e1 : D.prod (dints (a :: r ++ [n])) = a * D.prod (dints (r ++ [n])) := rfl
    have e2 : D.prod (dints (a :: r)) = a * D.prod (dints r) := rfl
    rw [e1, e2, ih, Int.mul_assoc]
theorem prod_take {ns : List Int} {i : Nat} (h : i < ns.length) :
    D.prod (dints (ns.take (i + 1))) = D.prod (dints (ns.take i)) * ns[i] := by
  rw [List.take_add_one, List.getElem?_eq_getElem h]
  exact prod_append _ _
theorem within_len {n : Nat} {b : Bool} (h : D.within 1 3 (.int n) = b) :
    (decide (1 ≤ n) && decide (n ≤ 3)) = b := by
  rw [← h, D.within]
  congr 1
  · simp only [decide_eq_decide]; omega
  · simp only [decide_eq_decide]; omega
theorem prod_pre {xs : List D} (h : xs.all (D.within 2 5) = true) :
    preProd [.tup xs] := by
  have key : ∀ xs : List D, xs.all (D.within 2 5) = true →
      ∃ ns : List Int, xs = dints ns ∧ ∀ n ∈ ns, 2 ≤ n ∧ n ≤ 5 := by
    intro xs
    induction xs with
    | nil => intro _; exact ⟨[], rfl, fun _ z => (nomatch z)⟩
    | cons x r ih =>
      intro h
      rw [List.all_cons, Bool.and_eq_true] at h
      obtain ⟨ns, rfl, hn⟩ := ih h.2
      cases x with
      | int i =>
        have hi := h.1
        rw [D.within, Bool.and_eq_true, decide_eq_true_eq, decide_eq_true_eq] at hi
        refine ⟨i :: ns, rfl, fun n hm => ?_⟩
        rcases List.mem_cons.mp hm with rfl | hm
        · exact hi
        · exact hn n hm
      | _ => simp [D.within] at h
  obtain ⟨ns, rfl, hn⟩ := key xs h
  exact ⟨ns, rfl, hn⟩
theorem primes_at {i : Int} (h0 : 0 ≤ i) (h1 : i < 7) : ∃ p : Int,
    [D.int 2147483647, .int 2147483629, .int 2147483587, .int 2147483579,
      .int 2147483563, .int 2147483549, .int 2147483543][i.toNat]? =
      some (.int p) ∧ 0 < p ∧ p < 2147483648 := by
  have : i = 0 ∨ i = 1 ∨ i = 2 ∨ i = 3 ∨ i = 4 ∨ i = 5 ∨ i = 6 := by omega
  rcases this with rfl | rfl | rfl | rfl | rfl | rfl | rfl <;>
    exact ⟨_, rfl, by decide, by decide⟩
theorem hand_mul (x : Int) (b : Bool) :
    CMulW (x % 10 ^ 600) (if b then 1 else 0) := by
  have h1 := Int.emod_nonneg x (show (10 : Int) ^ 600 ≠ 0 by decide +kernel)
  have h2 := Int.emod_lt_of_pos x (show (0 : Int) < 10 ^ 600 by decide +kernel)
  refine wide_mul (a := 2000) (b := 1) ?_ (by cases b <;> decide)
    (by decide) (by decide) (by decide)
  have h3 : (10 : Int) ^ 600 ≤ 2 ^ 2000 := by decide +kernel
  omega
theorem hand_is (x y z : Int) (b : Bool) :
    isHand (.lst [.int (x % 10 ^ 600 * if b then 1 else 0),
      .int ((y + z + 97) % 2305843009213693921), .int 0]) := by
  have h1 := Int.emod_nonneg x (show (10 : Int) ^ 600 ≠ 0 by decide +kernel)
  have h2 := Int.emod_lt_of_pos x (show (0 : Int) < 10 ^ 600 by decide +kernel)
  have h3 := Int.emod_nonneg (y + z + 97)
    (show (2305843009213693921 : Int) ≠ 0 by decide)
  have h4 := Int.emod_lt_of_pos (y + z + 97)
    (show (0 : Int) < 2305843009213693921 by decide)
  refine ⟨_, _, rfl, ?_, ?_, h3, by omega⟩
  · cases b
    · rw [if_neg Bool.false_ne_true, Int.mul_zero]; decide
    · rw [if_pos rfl, Int.mul_one]; exact h1
  · cases b
    · rw [if_neg Bool.false_ne_true, Int.mul_zero]; decide +kernel
    · rw [if_pos rfl, Int.mul_one]; exact h2
theorem take_base {s c d : Int} (s1 : 0 ≤ s) (s2 : s < 2 ^ 61) (c1 : 0 ≤ c)
    (c2 : c ≤ 10000000) (d1 : 0 ≤ d) (d2 : d ≤ 10000000) :
    (s + 7919 * c * d + 31).natAbs < 2 ^ 64 := by
  have h1 : 7919 * c * d ≤ 7919 * 10000000 * 10000000 :=
    Int.mul_le_mul (by omega) d2 d1 (by omega)
  have h2 : 0 ≤ 7919 * c * d := Int.mul_nonneg (by omega) d1
  omega
theorem dints_append (as bs : List Int) :
    dints as ++ dints bs = dints (as ++ bs) := (List.map_append ..).symm
theorem dints_length (as : List Int) : (dints as).length = as.length :=
  List.length_map ..
def showsB (d : D) : Bool :=
  itmB 100 2000 d && (!d.py.hasDict || d.noLst)
theorem Shows.of {d : D} (h : showsB d = true) : Shows d := by
  unfold showsB at h
  rw [Bool.and_eq_true] at h
  refine (Itm.of h.1).shows (by omega) (by omega) fun z => ?_
  rw [z] at h
  simpa using h.2
theorem all_true (n : Nat) : (List.replicate n true).all id = true := by
  rw [List.all_replicate]
  simp
def uints : List D → List Int
  | .int i :: r => i :: uints r
  | _ => []
theorem uints_dints (ns : List Int) : uints (dints ns) = ns := by
  induction ns with
  | nil => rfl
  | cons a r ih =>
    show a :: uints (dints r) = _
    rw [ih]
theorem dints_get {ns : List Int} {c : Nat} {d : D}
    (h : (dints ns)[c]? = some d) : ∃ n, ns[c]? = some n ∧ d = .int n := by
  rw [dints, List.getElem?_map] at h
  cases e : ns[c]? with
  | none => rw [e] at h; cases h
  | some t =>
    rw [e] at h
    exact ⟨t, rfl, (Option.some.inj h).symm⟩
theorem dints_rep (n : Nat) (x : Int) : dints (List.replicate n x) =
    List.replicate n (.int x) := List.map_replicate ..
def z3 (f : Int → Int → Int → Int) : List Int → List Int → List Int → List Int
  | x :: xs, y :: ys, z :: zs => f x y z :: z3 f xs ys zs
  | _, _, _ => []
theorem zw_get {f : Int → Int → Int} {xs ys : List Int} {c : Nat} {x y : Int}
    (h1 : xs[c]? = some x) (h2 : ys[c]? = some y) :
    (List.zipWith f xs ys)[c]? = some (f x y) := by
  rw [List.getElem?_zipWith, h1, h2]
theorem take_snoc {α : Type} {xs : List α} {c : Nat} {x : α}
    (h : xs[c]? = some x) : xs.take (c + 1) = xs.take c ++ [x] := by
  rw [List.take_add_one, h]; rfl
theorem dints_snoc (xs : List Int) (x : Int) :
    dints xs ++ [D.int x] = dints (xs ++ [x]) := dints_append xs [x]
/-- one of two of the same length has an item where the other has -/
theorem get_of_len {α β : Type} {xs : List α} {ys : List β} {c : Nat} {x : α}
    (h : xs.length ≤ ys.length) (hx : xs[c]? = some x) :
    ∃ y, ys[c]? = some y := by
  have := (List.getElem?_eq_some_iff.mp hx).1
  exact ⟨ys[c]'(by omega), List.getElem?_eq_getElem _⟩
theorem ext_of_get {α : Type} {xs ys : List α} (hl : xs.length = ys.length)
    (h : ∀ (c : Nat) x y, xs[c]? = some x → ys[c]? = some y → x = y) : xs = ys := by
  apply List.ext_getElem hl
  intro c h1 h2
  exact h c _ _ (List.getElem?_eq_getElem h1) (List.getElem?_eq_getElem h2)
section
variable {K : PySem.W.Frag} {l : Option Addr} {ρ : Ro} {m : Nat}
variable {Φ : Nat → D → Prop} {te tl : TE} {tA : TA}
theorem e_lcZi {f : Int → Int → Int} {i j : Nat}
    (hi : ρ[i]? = some none) (hj : ρ[j]? = some none) (hij : i ≠ j)
    (h : AvC K l tA ρ m fun m1 as => ∃ xs ys : List Int,
      as = [.tup (dints xs), .tup (dints ys)] ∧ xs.length ≤ 50000 ∧
      (∀ (c : Nat) x y, xs[c]? = some x → ys[c]? = some y →
        EvC K l te ((ρ.set i (some (.dat (.int x)))).set j
          (some (.dat (.int y)))) m1 fun n2 d => n2 = m1 ∧ d = .int (f x y)) ∧
      Φ m1 (.lst (dints (List.zipWith f xs ys)))) :
    EvC K l (tLc (RZ.iZipA K tA) (g2 K i j) tYes te [i, j]) ρ m Φ := by
  refine e_lcZ hi hj hij (a_imp h fun m1 as q => ?_)
  obtain ⟨xs, ys, rfl, hl, hb, hq⟩ := q
  refine ⟨_, _, rfl, by rw [dints_length]; exact hl, fun c n acc =>
    n = m1 ∧ acc = dints ((List.zipWith f xs ys).take c), ⟨rfl, rfl⟩, ?_, ?_⟩
  · intro c n acc d e h1 h2 hI _
    obtain ⟨rfl, rfl⟩ := hI
    obtain ⟨x, e1, rfl⟩ := dints_get h1
    obtain ⟨y, e2, rfl⟩ := dints_get h2
    refine e_imp (hb c x y e1 e2) fun n2 d q => ?_
    obtain ⟨rfl, rfl⟩ := q
    exact ⟨rfl, by rw [take_snoc (zw_get e1 e2), dints_snoc]⟩
  · intro n acc _ hI
    obtain ⟨rfl, rfl⟩ := hI
    rw [dints_length, dints_length, ← List.length_zipWith (f := f),
      List.take_length]
    exact hq
end
def MsP (ms : List Int) : Prop :=
  1 ≤ ms.length ∧ ms.length ≤ 3 ∧ ∀ m ∈ ms, 2 ≤ m ∧ m ≤ 5
def msB (ms : List Int) : Bool := decide (1 ≤ ms.length) &&
  decide (ms.length ≤ 3) && ms.all fun m => decide (2 ≤ m) && decide (m ≤ 5)
theorem MsP.of {ms : List Int} (h : msB ms = true) : MsP ms := by
  unfold msB at h
  simp only [Bool.and_eq_true, decide_eq_true_eq, List.all_eq_true] at h
  exact ⟨h.1.1, h.1.2, h.2⟩
def TieP (ms t : List Int) : Prop := t.length = ms.length ∧
  ∀ (c : Nat) (m x : Int), ms[c]? = some m → t[c]? = some x → 0 ≤ x ∧ x < m
theorem num_int {i : Int} (h1 : -10000 ≤ i) (h2 : i ≤ 10000) :
    Num 0 15 (.int i) := ⟨itm_int h1 h2, rfl⟩
theorem num_row {ns : List Int} {k : Nat} (hl : ns.length ≤ k)
    (h : ∀ n ∈ ns, -10000 ≤ n ∧ n ≤ 10000) :
    Num 1 (16 * k) (.tup (dints ns)) := by
  refine (Num.tup (k := 0) (w := 15) fun x hx => ?_).up (by omega) ?_
  · obtain ⟨n, hn, rfl⟩ := List.mem_map.mp hx
    exact num_int (h n hn).1 (h n hn).2
  · rw [dints_length]
    exact Nat.mul_le_mul_left 16 hl
theorem MsP.num {ms : List Int} (h : MsP ms) :
    Num 1 48 (.tup (dints ms)) :=
  num_row (k := 3) h.2.1 fun n hn => by have := h.2.2 n hn; omega
theorem TieP.bd {ms t : List Int} (h : TieP ms t) (hm : MsP ms) :
    ∀ x ∈ t, 0 ≤ x ∧ x ≤ 4 := by
  intro x hx
  obtain ⟨c, hc⟩ := List.getElem?_of_mem hx
  obtain ⟨m, e⟩ := get_of_len (Nat.le_of_eq h.1) hc
  have h1 := h.2 c m x e hc
  have h2 := hm.2.2 m (List.mem_of_getElem? e)
  omega
theorem TieP.num {ms t : List Int} (h : TieP ms t) (hm : MsP ms) :
    Num 1 48 (.tup (dints t)) :=
  num_row (k := 3) (by rw [h.1]; exact hm.2.1) fun n hn => by
    have := h.bd hm n hn; omega
def preMs1 (ds : List D) : Prop := ∃ ms, ds = [.tup (dints ms)] ∧ MsP ms
def fNou : List D → D
  | [.tup xs] => .tup (dints (List.replicate xs.length 0))
  | _ => .non
theorem tieP_of {ms t : List Int} (hm : MsP ms) (hl : t.length = ms.length)
    (h : ∀ (c : Nat) m x, ms[c]? = some m → t[c]? = some x → ∃ y, x = y % m) :
    TieP ms t := by
  refine ⟨hl, fun c m x h1 h2 => ?_⟩
  obtain ⟨y, rfl⟩ := h c m x h1 h2
  have := hm.2.2 m (List.mem_of_getElem? h1)
  exact ⟨Int.emod_nonneg _ (by omega), Int.emod_lt_of_pos _ (by omega)⟩
theorem rep_tie {ms : List Int} (hm : MsP ms) :
    TieP ms (List.replicate ms.length 0) := by
  refine ⟨by simp, fun c m x h1 h2 => ?_⟩
  have := hm.2.2 m (List.mem_of_getElem? h1)
  rw [List.getElem?_replicate] at h2
  split at h2
  · cases h2; omega
  · cases h2
def preTT (ds : List D) : Prop := ∃ ms a b,
  ds = [.tup (dints ms), .tup (dints a), .tup (dints b)] ∧ MsP ms ∧
  TieP ms a ∧ TieP ms b
def sumF (ms a b : List Int) : List Int :=
  z3 (fun x y m => (x + y) % m) a b ms
def lessF (ms a b : List Int) : List Int :=
  z3 (fun x y m => (x - y) % m) a b ms
def fSum : List D → D
  | [.tup ms, .tup a, .tup b] => .tup (dints (sumF (uints ms) (uints a) (uints b)))
  | _ => .non
def fLess : List D → D
  | [.tup ms, .tup a, .tup b] => .tup (dints (lessF (uints ms) (uints a) (uints b)))
  | _ => .non
def MsQ (ms : List Int) : Prop := MsP ms ∧ D.prod (dints ms) ≤ 30
def preSc (m : Nat) (ds : List D) : Prop := m < 9000000 ∧ ds = []
def psiSc (ds : List D) (m m' : Nat) (d : D) : Prop :=
  m' ≤ m + 1 ∧ ∃ ms, MsQ ms ∧ d = .tup (dints ms)
def preKn (m : Nat) (ds : List D) : Prop := m < 8000000 ∧ preMs1 ds
def psiKn (ds : List D) (m m' : Nat) (d : D) : Prop :=
  m' ≤ m + 3 ∧ ∃ ms t, ds = [.tup (dints ms)] ∧ TieP ms t ∧ d = .tup (dints t)
theorem scales14 {d : D} (h : d ∈ ([.tup (dints [2]), .tup (dints [4, 2]),
    .tup (dints [3]), .tup (dints [4]), .tup (dints [5]), .tup (dints [2, 2]),
    .tup (dints [2, 4, 3]), .tup (dints [3, 2]), .tup (dints [5, 5]),
    .tup (dints [2, 2, 2]), .tup (dints [3, 3]), .tup (dints [4, 5]),
    .tup (dints [2, 3, 5]), .tup (dints [5, 3, 2])] : List D)) :
    ∃ ms, MsP ms ∧ D.prod (dints ms) ≤ 30 ∧ d = .tup (dints ms) := by
  have key : ∀ ms : List Int, msB ms = true → D.prod (dints ms) ≤ 30 →
      ∃ ms', MsP ms' ∧ D.prod (dints ms') ≤ 30 ∧ D.tup (dints ms) = .tup (dints ms') :=
    fun ms h1 h2 => ⟨ms, MsP.of h1, h2, rfl⟩
  simp only [List.mem_cons, List.not_mem_nil, or_false] at h
  rcases h with rfl | rfl | rfl | rfl | rfl | rfl | rfl | rfl | rfl | rfl | rfl | rfl | rfl | rfl <;>
    exact key _ rfl (by decide)
def HuP (hs : List Int) : Prop :=
  2 ≤ hs.length ∧ hs.length ≤ 16 ∧ ∀ n ∈ hs, 0 ≤ n ∧ n ≤ 9
def D.huesB : D → Bool
  | .tup xs => decide (2 ≤ xs.length) && decide (xs.length ≤ 16) &&
      xs.all (D.within 0 9)
  | _ => false
def fHue : List D → D
  | [d] => .bl (D.within 0 9 d)
  | _ => .non
def fHues : List D → D
  | [d] => .bl (D.huesB d)
  | _ => .non
abbrev frD (C : Addr) (ms hs : List Int) : D :=
  .ins C ["measure", "hues"] [.tup (dints ms), .tup (dints hs)]
def preFrame (ds : List D) : Prop := ∃ ms hs,
  ds = [.tup (dints ms), .tup (dints hs)] ∧ MsQ ms ∧ HuP hs
theorem within_all {ns : List Int} {a b : Int} (h : ∀ n ∈ ns, a ≤ n ∧ n ≤ b) :
    (dints ns).all (D.within a b) = true := by
  rw [dints, List.all_map, List.all_eq_true]
  intro n hn
  have := h n hn
  simp [D.within, this.1, this.2]
theorem meas_of {ms : List Int} (h : MsQ ms) :
    D.meas (.tup (dints ms)) = true := by
  rw [D.meas, within_all h.1.2.2, dints_length, decide_eq_true h.1.1,
    decide_eq_true h.1.2.1, decide_eq_true h.2]
  rfl
theorem hues_of {hs : List Int} (h : HuP hs) :
    D.huesB (.tup (dints hs)) = true := by
  rw [D.huesB, within_all h.2.2, dints_length, decide_eq_true h.1,
    decide_eq_true h.2.1]
  rfl
theorem plain_ints (ns : List Int) : (D.tup (dints ns)).plain = true := by
  rw [D.plain, plains_all, List.all_eq_true]
  intro x hx
  obtain ⟨n, _, rfl⟩ := List.mem_map.mp hx
  rfl
theorem HuP.num {hs : List Int} (h : HuP hs) :
    Num 1 256 (.tup (dints hs)) :=
  num_row (k := 16) h.2.1 fun n hn => by have := h.2.2 n hn; omega
abbrev dtab (T : List (List (List Int))) : D :=
  .tup (T.map fun r => .tup (r.map fun t => .tup (dints t)))
def TabP (ms : List Int) (n : Nat) (T : List (List (List Int))) : Prop :=
  T.length = n ∧ ∀ (i : Nat) r, T[i]? = some r → r.length = i ∧
    ∀ t ∈ r, TieP ms t
theorem TabP.num {ms : List Int} {n : Nat} {T : List (List (List Int))}
    (hM : MsP ms) (hn : n ≤ 16) (h : TabP ms n T) :
    Num 3 16000 (dtab T) := by
  refine (Num.tup (k := 2) (w := 900) fun x hx => ?_).up (by omega) ?_
  · obtain ⟨r, hr, rfl⟩ := List.mem_map.mp hx
    obtain ⟨i, hi⟩ := List.getElem?_of_mem hr
    have h1 := h.2 i r hi
    have hi2 := (List.getElem?_eq_some_iff.mp hi).1
    refine (Num.tup (k := 1) (w := 48) fun y hy => ?_).up (by omega) ?_
    · obtain ⟨t, ht, rfl⟩ := List.mem_map.mp hy
      exact (h1.2 t ht).num hM
    · rw [List.length_map, h1.1]
      have := h.1
      omega
  · rw [List.length_map, h.1]
    omega
theorem TabP.at {ms : List Int} {n : Nat} {T : List (List (List Int))}
    (h : TabP ms n T) {i j : Nat} (hi : i < n) (hj : j < i) :
    ∃ r t, T[i]? = some r ∧ r[j]? = some t ∧ TieP ms t := by
  have hl := h.1
  obtain ⟨r, hr⟩ : ∃ r, T[i]? = some r := ⟨T[i]'(by omega), List.getElem?_eq_getElem _⟩
  have h1 := h.2 i r hr
  obtain ⟨t, ht⟩ : ∃ t, r[j]? = some t := ⟨r[j]'(by omega), List.getElem?_eq_getElem _⟩
  exact ⟨r, t, hr, ht, h1.2 t (List.mem_of_getElem? ht)⟩
def preCol (m : Nat) (ds : List D) : Prop := m < 7000000 ∧ ∃ z : Int,
  ds = [.int z] ∧ 2 ≤ z ∧ z ≤ 16
def psiCol (ds : List D) (m m' : Nat) (d : D) : Prop :=
  m' ≤ m + 20 ∧ ∃ hs z, ds = [.int z] ∧ d = .tup (dints hs) ∧ HuP hs ∧
    (hs.length : Int) ≤ z
def preGrid (m : Nat) (ds : List D) : Prop := m < 7000000 ∧ ∃ ms n,
  ds = [.tup (dints ms), .int n] ∧ MsP ms ∧ 0 ≤ n ∧ n ≤ 16
def psiGrid (ds : List D) (m m' : Nat) (d : D) : Prop :=
  m' ≤ m + 2000 ∧ ∃ ms n T, ds = [.tup (dints ms), .int n] ∧
    TabP ms n.toNat T ∧ d = dtab T
theorem dints_inj {a b : List Int} (h : dints a = dints b) : a = b := by
  have := congrArg uints h
  rwa [uints_dints, uints_dints] at this
theorem tup_inj {a b : List Int} (h : D.tup (dints a) = .tup (dints b)) :
    a = b := dints_inj (D.tup.inj h)
abbrev dsays (S : List (List Int)) : D := .tup (S.map fun t => .tup (dints t))
def usays : D → List (List Int)
  | .tup xs => xs.map fun d => match d with
    | .tup ys => uints ys
    | _ => []
  | _ => []
theorem usays_dsays (S : List (List Int)) : usays (dsays S) = S := by
  rw [dsays, usays, List.map_map]
  conv => rhs; rw [← List.map_id S]
  apply List.map_congr_left
  intro t _
  exact uints_dints t
abbrev dplace (a : Nat) (S : List (List Int)) : D := .tup [.int a, dsays S]
structure PlP (ms : List Int) (n a : Nat) (S : List (List Int)) : Prop where
  lt : a < n
  len : S.length = n
  tie : ∀ t ∈ S, TieP ms t
  own : S[a]? = some (List.replicate ms.length 0)
theorem says_get {S : List (List Int)} {n c : Nat} (hl : S.length = n)
    (hc : c < n) : ∃ t, S[c]? = some t :=
  ⟨S[c]'(by omega), List.getElem?_eq_getElem _⟩
def preSpot (m : Nat) (ds : List D) : Prop := m < 6000000 ∧
  ∃ (ms : List Int) (n a : Nat), ds = [.tup (dints ms), .int n, .int a] ∧
    MsP ms ∧ a < n ∧ n ≤ 17
def psiSpot (ds : List D) (m m' : Nat) (d : D) : Prop := m' ≤ m + 60 ∧
  ∃ (ms : List Int) (n a : Nat) (S : List (List Int)),
    ds = [.tup (dints ms), .int n, .int a] ∧ PlP ms n a S ∧ d = dplace a S
theorem args3 {ms ms' : List Int} {n n' a a' : Nat}
    (h : [D.tup (dints ms), D.int n, D.int a] =
      [.tup (dints ms'), .int n', .int a']) : ms = ms' ∧ n = n' ∧ a = a' := by
  have h1 := tup_inj (List.cons.inj h).1
  have h2 := D.int.inj (List.cons.inj (List.cons.inj h).2).1
  have h3 := D.int.inj (List.cons.inj (List.cons.inj (List.cons.inj h).2).2).1
  exact ⟨h1, by omega, by omega⟩
def preR0 (m : Nat) (ds : List D) : Prop := m = 0 ∧ ds = []
def psiR0 (ds : List D) (m m' : Nat) (d : D) : Prop := d = .bl true
def preLaw0 (ds : List D) : Prop := ∃ ns, ds = [.scr ns]
theorem num_place {ms : List Int} {n a : Nat} {S : List (List Int)}
    (hM : MsP ms) (hn : n ≤ 17) (ha : a < n) (hl : S.length = n)
    (ht : ∀ t ∈ S, TieP ms t) : Num 3 1700 (dplace a S) := by
  have h1 : Num 2 833 (dsays S) := by
    refine (Num.tup (k := 1) (w := 48) fun x hx => ?_).up (by omega) ?_
    · obtain ⟨t, h, rfl⟩ := List.mem_map.mp hx
      exact (ht t h).num hM
    · rw [List.length_map]; omega
  refine (Num.tup (k := 2) (w := 833) fun x hx => ?_).up (by omega) (by simp)
  simp only [List.mem_cons, List.not_mem_nil, or_false] at hx
  rcases hx with rfl | rfl
  · exact (num_int (by omega) (by omega)).up (by omega) (by omega)
  · exact h1

theorem pNou {ms : List Int} (hM : MsP ms) : preMs1 [.tup (dints ms)] :=
  ⟨ms, rfl, hM⟩
theorem fNou_is (ms : List Int) : fNou [.tup (dints ms)] =
    .tup (dints (List.replicate ms.length 0)) := by rw [fNou, dints_length]
theorem pTT {ms a b : List Int} (hM : MsP ms) (ha : TieP ms a)
    (hb : TieP ms b) : preTT [.tup (dints ms), .tup (dints a), .tup (dints b)] :=
  ⟨ms, a, b, rfl, hM, ha, hb⟩
theorem fSum_is (ms a b : List Int) :
    fSum [.tup (dints ms), .tup (dints a), .tup (dints b)] =
      .tup (dints (sumF ms a b)) := by
  rw [fSum, uints_dints, uints_dints, uints_dints]
theorem fLess_is (ms a b : List Int) :
    fLess [.tup (dints ms), .tup (dints a), .tup (dints b)] =
      .tup (dints (lessF ms a b)) := by
  rw [fLess, uints_dints, uints_dints, uints_dints]
section
variable {K : PySem.W.Frag} {l : Option Addr} {ρ : Ro} {m : Nat}
variable {Φ : Nat → D → Prop}
theorem v_rep0 {ms : List Int} (hM : MsP ms)
    (q : Φ m (.tup (dints (List.replicate ms.length 0)))) :
    VvC K l ρ (fun vs H Q => ∃ x y, vs = [x, y] ∧ rRepA K x y H Q)
      [.tup [.int 0], .int ((dints ms).length : Int)] m Φ := by
  have h3 := hM.2.1
  refine v_repT (by omega) (by rw [dints_length]; omega) (by simp) ?_
  rw [Int.toNat_natCast, List.flatten_replicate_singleton, dints_length, ← dints_rep]
  exact q
end
theorem PlP.num {ms : List Int} {n a : Nat} {S : List (List Int)}
    (h : PlP ms n a S) (hM : MsP ms) (hn : n ≤ 17) : Num 3 1700 (dplace a S) :=
  num_place hM hn h.lt h.len h.tie
theorem map_dints {ys : List D} {P : Nat → List Int → Prop}
    (h : ∀ (i : Nat) y, ys[i]? = some y → ∃ t, y = D.tup (dints t) ∧ P i t) :
    ∃ S : List (List Int), ys = (S.map fun t => D.tup (dints t)) ∧
      ∀ (i : Nat) t, S[i]? = some t → P i t := dmap_of h

section
variable {Ψ : Nat → D → Prop} {m : Nat}
theorem g_take {n : Nat} (hm : m < 10000000) (hn : 0 < n) (hn2 : n < 1000000000)
    (h : ∀ (m2 r : Nat), m2 ≤ m + 1 → r < n → Ψ m2 (.int r)) :
    preTake m [.int n] ∧ ∀ m2 d, psiTake [.int n] m m2 d → Ψ m2 d := by
  refine ⟨⟨hm, n, rfl, by omega, takeB_of (by omega)⟩, fun m2 d q => ?_⟩
  obtain ⟨h1, n2, r, e, rfl, h2, h3⟩ := q
  have e2 := D.int.inj (List.cons.inj e).1
  have := h m2 r.toNat h1 (by omega)
  rwa [Int.toNat_of_nonneg h2] at this
theorem g_of {c : D} {xs : List D} (hm : m < 10000000) (hc : c.items = some xs)
    (hx : xs ≠ []) (hl : xs.length < 1000000)
    (h : ∀ (m2 : Nat) d, m2 ≤ m + 1 → d ∈ xs → Ψ m2 d) :
    preOf m [c] ∧ ∀ m2 d, psiOf [c] m m2 d → Ψ m2 d := by
  refine ⟨⟨hm, c, xs, rfl, hc, hx, hl⟩, fun m2 d q => ?_⟩
  obtain ⟨h1, c2, ys, e, h2, h3⟩ := q
  cases (List.cons.inj e).1
  rw [hc] at h2
  cases h2
  exact h m2 d h1 h3
theorem g_scale (hm : m < 9000000)
    (h : ∀ (m2 : Nat) ms, m2 ≤ m + 1 → MsQ ms → Ψ m2 (.tup (dints ms))) :
    preSc m [] ∧ ∀ m2 d, psiSc [] m m2 d → Ψ m2 d := by
  refine ⟨⟨hm, rfl⟩, fun m2 d q => ?_⟩
  obtain ⟨h1, ms, h2, rfl⟩ := q
  exact h m2 ms h1 h2
theorem g_col {z : Int} (hm : m < 7000000) (h1 : 2 ≤ z) (h2 : z ≤ 16)
    (h : ∀ (m2 : Nat) hs, m2 ≤ m + 20 → HuP hs → (hs.length : Int) ≤ z →
      Ψ m2 (.tup (dints hs))) :
    preCol m [.int z] ∧ ∀ m2 d, psiCol [.int z] m m2 d → Ψ m2 d := by
  refine ⟨⟨hm, z, rfl, h1, h2⟩, fun m2 d q => ?_⟩
  obtain ⟨q1, hs, z2, e, rfl, q2, q3⟩ := q
  cases (List.cons.inj e).1
  exact h m2 hs q1 q2 q3
theorem g_grid {ms : List Int} {n : Nat} (hm : m < 7000000) (hM : MsP ms)
    (hn : n ≤ 16)
    (h : ∀ (m2 : Nat) T, m2 ≤ m + 2000 → TabP ms n T → Ψ m2 (dtab T)) :
    preGrid m [.tup (dints ms), .int n] ∧
      ∀ m2 d, psiGrid [.tup (dints ms), .int n] m m2 d → Ψ m2 d := by
  refine ⟨⟨hm, ms, n, rfl, hM, by omega, by omega⟩, fun m2 d q => ?_⟩
  obtain ⟨q1, ms2, n2, T, e, q2, rfl⟩ := q
  cases tup_inj (List.cons.inj e).1
  cases D.int.inj (List.cons.inj (List.cons.inj e).2).1
  rw [Int.toNat_natCast] at q2
  exact h m2 T q1 q2
theorem g_spot {ms : List Int} {n a : Nat} (hm : m < 6000000) (hM : MsP ms)
    (ha : a < n) (hn : n ≤ 17)
    (h : ∀ (m2 : Nat) S, m2 ≤ m + 60 → PlP ms n a S → Ψ m2 (dplace a S)) :
    preSpot m [.tup (dints ms), .int n, .int a] ∧
      ∀ m2 d, psiSpot [.tup (dints ms), .int n, .int a] m m2 d → Ψ m2 d := by
  refine ⟨⟨hm, ms, n, a, rfl, hM, ha, hn⟩, fun m2 d q => ?_⟩
  obtain ⟨q1, ms2, n2, a2, S, e, q2, rfl⟩ := q
  obtain ⟨rfl, rfl, rfl⟩ := args3 e
  exact h m2 S q1 q2
end

def preStem (C : Addr) (ds : List D) : Prop := ∃ ms hs, ds = [frD C ms hs]
def fStem : List D → D
  | [.ins _ _ [_, .tup hs]] => .int hs.length
  | _ => .non
theorem pStem {C : Addr} {ms hs : List Int} : preStem C [frD C ms hs] :=
  ⟨ms, hs, rfl⟩
theorem fStem_is (C : Addr) (ms hs : List Int) :
    fStem [frD C ms hs] = .int hs.length := by
  show D.int ((dints hs).length : Int) = _
  rw [dints_length]
def utab : D → List (List (List Int))
  | .tup rs => rs.map usays
  | _ => []
theorem utab_dtab (T : List (List (List Int))) : utab (dtab T) = T := by
  rw [dtab, utab, List.map_map]
  conv => rhs; rw [← List.map_id T]
  apply List.map_congr_left
  intro r _
  exact usays_dsays r
abbrev Spot := Nat × List (List Int)
abbrev dspot (p : Spot) : D := dplace p.1 p.2
def uspot : D → Spot
  | .tup [.int a, s] => (a.toNat, usays s)
  | _ => (0, [])
theorem uspot_dspot (p : Spot) : uspot (dspot p) = p := by
  show ((p.1 : Int).toNat, usays (dsays p.2)) = p
  rw [usays_dsays, Int.toNat_natCast]
def LotP (ms : List Int) (n : Nat) (L : List Spot) : Prop := L.length = n ∧
  ∀ (i : Nat) p, L[i]? = some p → p.1 = i ∧ PlP ms n i p.2
abbrev zt (ms : List Int) : List Int := List.replicate ms.length 0
theorem LotP.at {ms : List Int} {n i : Nat} {L : List Spot} (h : LotP ms n L)
    (hi : i < n) : ∃ S, L[i]? = some (i, S) ∧ PlP ms n i S := by
  have hl := h.1
  obtain ⟨p, hp⟩ : ∃ p, L[i]? = some p := ⟨L[i]'(by omega), List.getElem?_eq_getElem _⟩
  obtain ⟨e, h2⟩ := h.2 i p hp
  refine ⟨p.2, ?_, h2⟩
  rw [hp, ← e]
theorem LotP.all {ms : List Int} {n : Nat} {L : List Spot} (h : LotP ms n L) :
    ∀ p ∈ L, PlP ms n p.1 p.2 := by
  intro p hp
  obtain ⟨i, hi⟩ := List.getElem?_of_mem hp
  obtain ⟨e, h2⟩ := h.2 i p hi
  rw [e]; exact h2

def tt (T : List (List (List Int))) (i j : Nat) : List Int :=
  (T.getD i []).getD j []
abbrev dnats (L : List Nat) : List D := L.map fun (i : Nat) => D.int (i : Int)
def unats (xs : List D) : List Nat := (uints xs).map Int.toNat
theorem unats_dnats (L : List Nat) : unats (dnats L) = L := by
  have : dnats L = dints (L.map fun (i : Nat) => (i : Int)) := by
    rw [dints, List.map_map]; rfl
  rw [this, unats, uints_dints, List.map_map]
  conv => rhs; rw [← List.map_id L]
  apply List.map_congr_left
  intro i _
  show ((i : Int)).toNat = i
  omega
structure LeadP (hs : List Int) (L : List Nat) : Prop where
  len : L.length = hs.length
  nd : L.Nodup
  hue : ∀ (x y : Nat), L[x]? = some y → y < hs.length ∧ hs[y]? = hs[x]?
theorem LeadP.at {hs : List Int} {L : List Nat} (h : LeadP hs L) {b : Nat}
    (hb : b < hs.length) : ∃ c, L[b]? = some c ∧ c < hs.length := by
  have hl := h.len
  obtain ⟨c, hc⟩ : ∃ c, L[b]? = some c := ⟨L[b]'(by omega), List.getElem?_eq_getElem _⟩
  exact ⟨c, hc, (h.hue b c hc).1⟩
theorem LeadP.inj {hs : List Int} {L : List Nat} (h : LeadP hs L) {a b c : Nat}
    (ha : L[a]? = some c) (hb : L[b]? = some c) : a = b :=
  (List.getElem?_inj (List.getElem?_eq_some_iff.mp ha).1 h.nd).mp (ha.trans hb.symm)
abbrev Turn := List Nat × List (List (List Int))
abbrev dturn (t : Turn) : D := .tup [.tup (dnats t.1), dtab t.2]
def uturn : D → Turn
  | .tup [.tup xs, t] => (unats xs, utab t)
  | _ => ([], [])
theorem uturn_dturn (t : Turn) : uturn (dturn t) = t := by
  show (unats (dnats t.1), utab (dtab t.2)) = t
  rw [unats_dnats, utab_dtab]
structure TurnP (ms hs : List Int) (t : Turn) : Prop where
  lead : LeadP hs t.1
  tab : TabP ms hs.length t.2
def preMix (m : Nat) (ds : List D) : Prop := m < 6000000 ∧ ∃ c xs,
  ds = [c] ∧ c.items = some xs ∧ xs.length ≤ 200 ∧ ∀ x ∈ xs, Num 20 500 x ∨ xs.length ≤ 30 ∧ Num 20 3000 x
def psiMix (ds : List D) (m m' : Nat) (es : List D) : Prop := m' ≤ m + 200 ∧
  ∃ c xs, ds = [c] ∧ c.items = some xs ∧ es.Perm xs
theorem erase_perm {α : Type} : ∀ {xs : List α} {k : Nat} {y : α},
    xs[k]? = some y → (y :: xs.eraseIdx k).Perm xs
  | [], _, _, h => by simp at h
  | x :: xs, 0, y, h => by cases h; exact .refl _
  | x :: xs, k + 1, y, h => by
    rw [List.getElem?_cons_succ] at h
    show (y :: x :: xs.eraseIdx k).Perm (x :: xs)
    exact (List.Perm.swap x y _).trans (.cons x (erase_perm h))
def posF (hs : List Int) (g : Int) : List Int :=
  ((List.range hs.length).filter fun i => decide (hs.getD i 0 = g)).map
    fun (i : Nat) => (i : Int)
theorem pos_mem {hs : List Int} {g y : Int} (h : y ∈ posF hs g) :
    ∃ j : Nat, y = j ∧ j < hs.length ∧ hs[j]? = some g := by
  obtain ⟨j, hj, rfl⟩ := List.mem_map.mp h
  rw [List.mem_filter, List.mem_range, decide_eq_true_eq] at hj
  refine ⟨j, rfl, hj.1, ?_⟩
  rw [List.getD_eq_getElem?_getD, List.getElem?_eq_getElem hj.1] at hj
  rw [List.getElem?_eq_getElem hj.1]
  exact congrArg some hj.2
theorem pos_nodup (hs : List Int) (g : Int) : (posF hs g).Nodup := by
  unfold posF
  have h1 : ((List.range hs.length).filter fun i => decide (hs.getD i 0 = g)).Nodup :=
    List.Pairwise.filter _ List.nodup_range
  refine List.Pairwise.map _ (fun a b hab => ?_) h1
  intro e
  exact hab (by omega)
theorem map_getD (hs : List Int) : (List.range hs.length).map (fun i => hs.getD i 0) = hs := by
  refine ext_of_get (by simp) fun i x y e1 e2 => ?_
  have hi := (List.getElem?_eq_some_iff.mp e2).1
  rw [List.getElem?_map, List.getElem?_range hi] at e1
  cases e1
  show hs.getD i 0 = y
  rw [List.getD_eq_getElem?_getD, e2]
  rfl
theorem pos_len (hs : List Int) (g : Int) : (posF hs g).length = hs.count g := by
  unfold posF
  rw [List.length_map, ← List.countP_eq_length_filter]
  conv => rhs; rw [← map_getD hs]
  rw [List.count, List.countP_map]
  congr 1
theorem pop_lead {hs L : List Int} (h : PopR hs (posF hs) L) :
    ∃ L' : List Nat, L = (L'.map fun (i : Nat) => (i : Int)) ∧ LeadP hs L' := by
  obtain ⟨perm, h1, h2, h3⟩ := h
  have key : ∀ (i : Nat) g, hs[i]? = some g → ∃ j : Nat, L[i]? = some (j : Int) ∧
      j < hs.length ∧ hs[j]? = some g ∧
      (perm g)[hs.count g - 1 - (hs.take i).count g]? = some (j : Int) := by
    intro i g hi
    have hg := List.mem_of_getElem? hi
    have hc := count_lt hi
    have hl : (perm g).length = hs.count g := by rw [(h1 g hg).length_eq, pos_len]
    obtain ⟨y, hy⟩ : ∃ y, (perm g)[hs.count g - 1 - (hs.take i).count g]? = some y :=
      ⟨_, List.getElem?_eq_getElem (by omega)⟩
    obtain ⟨j, rfl, j1, j2⟩ := pos_mem ((h1 g hg).mem_iff.mp (List.mem_of_getElem? hy))
    exact ⟨j, (h3 i g hi).trans hy, j1, j2, hy⟩
  have at_ : ∀ i : Nat, i < hs.length → ∃ g, hs[i]? = some g :=
    fun i hi => ⟨hs[i], List.getElem?_eq_getElem hi⟩
  refine ⟨L.map Int.toNat, ?_, ?_⟩
  · rw [List.map_map]
    conv => lhs; rw [← List.map_id L]
    apply List.map_congr_left
    intro y hy
    obtain ⟨i, hi⟩ := List.getElem?_of_mem hy
    have hil := (List.getElem?_eq_some_iff.mp hi).1
    obtain ⟨g, hg⟩ := at_ i (by omega)
    obtain ⟨j, hj, _⟩ := key i g hg
    rw [hi] at hj
    cases hj
    show (j : Int) = (((j : Int).toNat : Nat) : Int)
    omega
  · have get : ∀ (i y : Nat), (L.map Int.toNat)[i]? = some y → i < hs.length ∧
        ∃ g, hs[i]? = some g ∧ y < hs.length ∧ hs[y]? = some g ∧
        (perm g)[hs.count g - 1 - (hs.take i).count g]? = some (y : Int) := by
      intro i y hy
      have hil := (List.getElem?_eq_some_iff.mp hy).1
      rw [List.length_map] at hil
      obtain ⟨g, hg⟩ := at_ i (by omega)
      obtain ⟨j, hj, j1, j2, j3⟩ := key i g hg
      rw [List.getElem?_map, hj] at hy
      have : j = y := by
        have := Option.some.inj hy
        omega
      subst this
      exact ⟨by omega, g, hg, j1, j2, j3⟩
    refine ⟨by simp [h2], ?_, fun x y hx => ?_⟩
    · show List.Pairwise _ _
      rw [List.pairwise_iff_getElem]
      intro i j hi hj hij e
      obtain ⟨i1, g, g1, g2, g3, g4⟩ := get i _ (List.getElem?_eq_getElem hi)
      obtain ⟨j1, g', g1', g2', g3', g4'⟩ := get j _ (List.getElem?_eq_getElem hj)
      rw [← e] at g3' g4'
      rw [g3] at g3'
      cases g3'
      have hg := List.mem_of_getElem? g1
      have nd : (perm g).Nodup := (h1 g hg).nodup_iff.mpr (pos_nodup hs g)
      have hl : (perm g).length = hs.count g := by rw [(h1 g hg).length_eq, pos_len]
      have c1 := count_lt g1
      have c2 := count_lt g1'
      have e2 := (List.getElem?_inj (by omega) nd).mp (g4.trans g4'.symm)
      have c3 := count_take (g := g) g1
      rw [if_pos rfl] at c3
      have c4 : (hs.take (i + 1)).count g ≤ (hs.take j).count g := by
        have : (hs.take (i + 1)) = (hs.take j).take (i + 1) := by
          rw [List.take_take, Nat.min_eq_left (by omega)]
        rw [this]
        exact List.Sublist.count_le _ (List.take_sublist _ _)
      omega
    · obtain ⟨_, g, g1, g2, g3, _⟩ := get x y hx
      exact ⟨g2, g3.trans g1.symm⟩
def preLd (m : Nat) (ds : List D) : Prop := m < 5500000 ∧ ∃ hs,
  ds = [.tup (dints hs)] ∧ hs.length ≤ 16
def psiLd (ds : List D) (m m' : Nat) (d : D) : Prop := m' ≤ m + 3200 ∧
  ∃ hs L, ds = [.tup (dints hs)] ∧ d = .tup (dnats L) ∧ LeadP hs L
def preTg (m : Nat) (ds : List D) : Prop := m < 5000000 ∧ ∃ ms hs,
  ds = [.tup (dints ms), .tup (dints hs)] ∧ MsP ms ∧ hs.length ≤ 16
def psiTg (ds : List D) (m m' : Nat) (d : D) : Prop := m' ≤ m + 5200 ∧
  ∃ ms hs t, ds = [.tup (dints ms), .tup (dints hs)] ∧ d = dturn t ∧ TurnP ms hs t
theorem g_leads {Ψ : Nat → D → Prop} {m : Nat} {hs : List Int} (hm : m < 5500000)
    (hl : hs.length ≤ 16)
    (h : ∀ (m2 : Nat) L, m2 ≤ m + 3200 → LeadP hs L → Ψ m2 (.tup (dnats L))) :
    preLd m [.tup (dints hs)] ∧ ∀ m2 d, psiLd [.tup (dints hs)] m m2 d → Ψ m2 d := by
  refine ⟨⟨hm, hs, rfl, hl⟩, fun m2 d q => ?_⟩
  obtain ⟨h1, hs2, L, e, rfl, h2⟩ := q
  cases tup_inj (List.cons.inj e).1
  exact h m2 L h1 h2
theorem g_turning {Ψ : Nat → D → Prop} {m : Nat} {ms hs : List Int} (hm : m < 5000000)
    (hM : MsP ms) (hl : hs.length ≤ 16)
    (h : ∀ (m2 : Nat) t, m2 ≤ m + 5200 → TurnP ms hs t → Ψ m2 (dturn t)) :
    preTg m [.tup (dints ms), .tup (dints hs)] ∧
      ∀ m2 d, psiTg [.tup (dints ms), .tup (dints hs)] m m2 d → Ψ m2 d := by
  refine ⟨⟨hm, ms, hs, rfl, hM, hl⟩, fun m2 d q => ?_⟩
  obtain ⟨h1, ms2, hs2, t, e, rfl, h2⟩ := q
  cases tup_inj (List.cons.inj e).1
  cases tup_inj (List.cons.inj (List.cons.inj e).2).1
  exact h m2 t h1 h2
theorem num_nats {L : List Nat} (hl : L.length ≤ 16) (h : ∀ i ∈ L, i ≤ 16) :
    Num 1 256 (.tup (dnats L)) := by
  refine (Num.tup (k := 0) (w := 15) fun x hx => ?_).up (by omega) ?_
  · obtain ⟨i, hi, rfl⟩ := List.mem_map.mp hx
    have := h i hi
    exact num_int (by omega) (by omega)
  · rw [List.length_map]; omega
theorem TurnP.num {ms hs : List Int} {t : Turn} (h : TurnP ms hs t) (hM : MsP ms)
    (hn : hs.length ≤ 16) : Num 4 32002 (dturn t) := by
  have h1 : Num 1 256 (.tup (dnats t.1)) := num_nats (by rw [h.lead.len]; exact hn) fun i hi => by
    obtain ⟨x, hx⟩ := List.getElem?_of_mem hi
    have := (h.lead.hue x i hx).1
    omega
  have h2 := TabP.num hM hn h.tab
  refine (Num.tup (k := 3) (w := 16000) fun x hx => ?_).up (by omega) (by simp)
  simp only [List.mem_cons, List.not_mem_nil, or_false] at hx
  rcases hx with rfl | rfl
  · exact h1.up (by omega) (by omega)
  · exact h2
theorem perm_ints {es : List D} {ns : List Int} (h : es.Perm (dints ns)) :
    ∃ L : List Int, es = L.map D.int ∧ L.Perm ns := by
  refine ⟨uints es, ?_, ?_⟩
  · obtain ⟨L, e, _⟩ := dmap_of (g := D.int) (ys := es) (P := fun _ _ => True) fun i y hy => by
      obtain ⟨n, _, rfl⟩ := List.mem_map.mp (h.mem_iff.mp (List.mem_of_getElem? hy))
      exact ⟨n, rfl, trivial⟩
    have : uints es = L := by rw [e]; exact uints_dints L
    rw [this]; exact e
  · have key : ∀ xs ys : List D, xs.Perm ys → (∀ y ∈ ys, ∃ n, y = .int n) → (uints xs).Perm (uints ys) := by
      intro xs ys hp
      induction hp with
      | nil => intro _; exact .refl _
      | cons x _ ih =>
        intro hy
        obtain ⟨n, rfl⟩ := hy x List.mem_cons_self
        exact .cons n (ih fun y h => hy y (List.mem_cons_of_mem _ h))
      | swap x y l =>
        intro hy
        obtain ⟨n, rfl⟩ := hy x List.mem_cons_self
        obtain ⟨k, rfl⟩ := hy y (List.mem_cons_of_mem _ List.mem_cons_self)
        exact .swap n k _
      | trans h1 h2 ih1 ih2 =>
        intro hy
        exact (ih1 fun y h => hy y (h2.mem_iff.mp h)).trans (ih2 hy)
    have := key es (dints ns) h fun y hy => by
      obtain ⟨n, _, rfl⟩ := List.mem_map.mp hy
      exact ⟨n, rfl⟩
    rwa [uints_dints] at this

theorem LeadP.ne {hs : List Int} {L : List Nat} (h : LeadP hs L) {a b c d : Nat}
    (ha : L[a]? = some c) (hb : L[b]? = some d) (hn : a ≠ b) : c ≠ d := by
  intro e
  subst e
  exact hn (h.inj ha hb)
noncomputable def cB (p : Prop) : Bool := @decide p (Classical.propDecidable p)
theorem cB_true {p : Prop} (h : p) : cB p = true := by
  unfold cB; exact @decide_eq_true p (Classical.propDecidable p) h
theorem cB_false {p : Prop} (h : ¬ p) : cB p = false := by
  unfold cB; exact @decide_eq_false p (Classical.propDecidable p) h
/-- things that are not too much -/
def Fit (d : D) : Prop := ∃ (b : Int) (k w : Nat), Sm b k w d ∧ 10 ^ 20 ≤ b ∧ b ≤ 10 ^ 30 ∧ k ≤ 50 ∧ w ≤ 40000
def preNr (m : Nat) (ds : List D) : Prop := m < 5000000 ∧ ∃ d, ds = [d] ∧ Fit d
def psiNr (ds : List D) (m m' : Nat) (r : D) : Prop := m' ≤ m + 1 ∧ ∃ d, ds = [d] ∧
  ∀ (b : Int) (k w : Nat), Sm b k w d → 10 ^ 20 ≤ b → b ≤ 10 ^ 30 → Sm (b + 1) (k + 3) (2 * w + 300) r
def preBe (dd : Nat) (m : Nat) (ds : List D) : Prop := ∃ d : D, ds = [d] ∧ d.py.depth < dd ∧
  m + 10 * d.py.depth < 4000000 ∧ Fit d
def psiBe (ds : List D) (m m' : Nat) (r : D) : Prop := ∃ d : D, ds = [d] ∧ m' ≤ m + 3 * d.py.depth + 3 ∧
  ∀ (b : Int) (k w : Nat), Sm b k w d → 10 ^ 20 ≤ b → b ≤ 10 ^ 30 → Sm (b + 1) (k + 3) (2 * w + 300 + d.py.depth) r
theorem Fit.plain {d : D} (h : Fit d) : d.plain = true := by
  obtain ⟨b, k, w, h, _⟩ := h
  exact h.itm.plain
theorem sm_kk {b : Int} {k w : Nat} {xs : List D} (h : Sm b k w (.tup xs)) : ∃ k', k = k' + 1 ∧ Sms b k' w xs := by
  have := h.itm.deep1
  obtain ⟨k', rfl⟩ : ∃ k', k = k' + 1 := ⟨k - 1, by omega⟩
  exact ⟨k', rfl, h.sms⟩
theorem Fit.len {xs : List D} (h : Fit (.tup xs)) : xs.length ≤ 40000 := by
  obtain ⟨b, k, w, h, _, _, _, hw⟩ := h
  obtain ⟨k', rfl, hs⟩ := sm_kk h
  have := hs.its.len
  omega
theorem sm_lit {c : D} {b : Int} {k w : Nat} (hi : itmB 3 70 c = true) (hs : c.smallB (10 ^ 20) = true) (h5 : 10 ^ 20 ≤ b) :
    Sm (b + 1) (k + 3) (2 * w + 300) c :=
  Sm.up (b := 10 ^ 20) ⟨Itm.of hi, hs⟩ (by omega) (by omega) (by omega)
theorem sm_of_int {b : Int} {k w : Nat} {i : Int} (h : Sm b k w (.int i)) : -b ≤ i ∧ i ≤ b := by
  have := h.sm
  rwa [D.smallB, Bool.and_eq_true, decide_eq_true_eq, decide_eq_true_eq] at this
theorem sm_near {b : Int} {k w : Nat} {j : Int} (h8 : b ≤ 10 ^ 30) (h1 : -(b + 1) ≤ j) (h2 : j ≤ b + 1) :
    Sm (b + 1) (k + 3) (2 * w + 300) (.int j) :=
  ⟨(itm_mid (by omega) (by omega)).mono (by omega) (by omega), by
    rw [D.smallB, Bool.and_eq_true, decide_eq_true_eq, decide_eq_true_eq]; exact ⟨h1, h2⟩⟩
theorem sm_bl {b : Int} {k w : Nat} {c : Bool} (h5 : 10 ^ 20 ≤ b) : Sm (b + 1) (k + 3) (2 * w + 300) (.bl c) := by
  cases c
  · exact sm_lit (by decide) (by decide) h5
  · exact sm_lit (by decide) (by decide) h5
def nearL : List D := [D.non, D.bl true, D.bl false, D.str (Str.ofString ""), D.tup [], D.lst [], D.dic [], D.int (-1), D.int (10 ^ 20), D.tup [D.int 0]]
theorem near_ok {b : Int} {k w : Nat} (h5 : 10 ^ 20 ≤ b) : ∀ r ∈ nearL, Sm (b + 1) (k + 3) (2 * w + 300) r := by
  have key : (nearL.all fun c => itmB 3 70 c && c.smallB (10 ^ 20)) = true := by decide +kernel
  intro r hr
  have := List.all_eq_true.mp key r hr
  rw [Bool.and_eq_true] at this
  exact sm_lit this.1 this.2 h5
theorem weight_app (as bs : List D) : PyData.weightAll (D.pys (as ++ bs)) =
    PyData.weightAll (D.pys as) + PyData.weightAll (D.pys bs) := by
  induction as with
  | nil => simp [D.pys, PyData.weightAll]
  | cons a r ih =>
    rw [List.cons_append, D.pys, D.pys, PyData.weightAll, PyData.weightAll, ih]
    omega
theorem weight_at {xs : List D} {a : Nat} {x : D} (hx : xs[a]? = some x) :
    PyData.weightAll (D.pys (xs.take a)) + (x.py.weight + 1) + PyData.weightAll (D.pys (xs.drop (a + 1))) = PyData.weightAll (D.pys xs) := by
  have ha := (List.getElem?_eq_some_iff.mp hx)
  have e : xs = xs.take a ++ (x :: xs.drop (a + 1)) := by
    rw [← ha.2, List.getElem_cons_drop, List.take_append_drop]
  conv => rhs; rw [e]
  rw [weight_app, D.pys, PyData.weightAll]
  omega
def near4 : List D := [D.non, D.bl true, D.bl false, D.str (Str.ofString "")]
theorem near4_ok {b : Int} {k w : Nat} (h5 : 10 ^ 20 ≤ b) : ∀ r ∈ near4, Sm (b + 1) (k + 3) (2 * w + 300) r :=
  fun r hr => near_ok h5 r ((List.take_sublist 4 nearL).subset hr)
theorem sms_exact {b : Int} {k w : Nat} {xs : List D} (h : Sms b k w xs) : Sms b k (PyData.weightAll (D.pys xs)) xs :=
  ⟨⟨h.its.plain, h.its.able, h.its.deep, h.its.short, Nat.le_refl _⟩, h.sm⟩
theorem sm_exact {b : Int} {k w : Nat} {x : D} (h : Sm b k w x) : Sm b k x.py.weight x :=
  ⟨⟨h.itm.plain, h.itm.able, h.itm.deep, h.itm.short, Nat.le_refl _⟩, h.sm⟩
theorem cut_from {xs : List D} {c : Nat} (h : c ≤ xs.length) : Wt.cutD xs (some (c : Int)) none = xs.drop c := by
  unfold Wt.cutD
  rw [HT.sIx_nat, HT.sIx_none, Nat.min_eq_left h, List.take_of_length_le (by rw [List.length_drop]; exact Nat.le_refl _)]
theorem cut_to {xs : List D} {c : Nat} (h : c ≤ xs.length) : Wt.cutD xs none (some (c : Int)) = xs.take c := by
  unfold Wt.cutD
  rw [HT.sIx_nat, HT.sIx_none, Nat.min_eq_left h, List.drop_zero, Nat.sub_zero]
theorem cut_one {xs : List D} {c : Nat} {x : D} (h : xs[c]? = some x) :
    Wt.cutD xs (some (c : Int)) (some ((c + 1 : Nat) : Int)) = [x] := by
  have hc := List.getElem?_eq_some_iff.mp h
  have h1 := hc.1
  unfold Wt.cutD
  rw [HT.sIx_nat, HT.sIx_nat, Nat.min_eq_left (by omega), Nat.min_eq_left (by omega), show c + 1 - c = 1 by omega,
    ← List.getElem_cons_drop h1, List.take_succ_cons, List.take_zero, hc.2]
theorem deep_at {xs : List D} {x : D} (h : x ∈ xs) : x.py.depth < (D.tup xs).py.depth := by
  rw [D.py, PyData.depth]
  have : ∀ ys : List D, x ∈ ys → x.py.depth ≤ PyData.depthAll (D.pys ys) := by
    intro ys
    induction ys with
    | nil => intro q; cases q
    | cons y r ih =>
      intro q
      rw [D.pys, PyData.depthAll]
      rcases List.mem_cons.mp q with z | z
      · rw [z]; exact Nat.le_max_left _ _
      · exact Nat.le_trans (ih z) (Nat.le_max_right _ _)
  have := this xs h
  omega
theorem v_negN {K : PySem.W.Frag} {l : Option Addr} {ρ : Ro} {m : Nat} {Φ : Nat → D → Prop} {d : D} {i : Int}
    (h : d.num = some i) (q : Φ m (.int (-i))) :
    VvC K l ρ (fun vs H Q => ∃ x, vs = [x] ∧ rNegN x H Q) [d] m Φ := by
  intro Z B H σ vs Q ok is k
  obtain ⟨v, rfl, h1⟩ := isAll1 is
  refine ⟨_, rfl, i, ?_, k _ _ m B H ok Fr.refl (.int _) q⟩
  cases h1 <;> first | exact h | cases h
theorem sms_all {b : Int} {k w : Nat} : ∀ {xs : List D}, (∀ x ∈ xs, Sm b k w x) → Sms b k ((w + 1) * xs.length) xs
  | [], _ => (Sms.nil (b := b)).up (Int.le_refl _) (Nat.zero_le _) (Nat.zero_le _)
  | x :: xs, h => by
    have r := sms_all (xs := xs) fun y hy => h y (List.mem_cons_of_mem _ hy)
    have o := Sms.one (h x List.mem_cons_self)
    refine (o.app r).up (Int.le_refl _) (Nat.le_refl _) ?_
    rw [List.length_cons, Nat.mul_add]
    omega
theorem Fit.of {b : Int} {k w : Nat} {d : D} (h : Sm b k w d) (h1 : 10 ^ 20 ≤ b) (h2 : b ≤ 10 ^ 30) (hk : k ≤ 50) (hw : w ≤ 40000) : Fit d :=
  ⟨b, k, w, h, h1, h2, hk, hw⟩
theorem s_freezeP {K : PySem.W.Frag} {l : Option Addr} {ρ : Ro} {m : Nat} {Nx : Nat → Ro → Prop} {Rt : Nat → D → Prop} {ts : TS} {P : D → Prop}
    {i : Nat} {ds : List D} (hi : ρ[i]? = some (some (.own ds))) (hP : ∀ d ∈ ds, P d)
    (h : ∀ frs : List D, frs.length = ds.length → (∀ d ∈ frs, P d) → SvC K l ts (ρ.set i (some (.dat (.lst frs)))) m Nx Rt) : SvC K l ts ρ m Nx Rt :=
  s_freeze hi (h ds rfl hP)
abbrev gP (ms : List Int) (p : Spot) : Spot := (p.1, p.2 ++ [zt ms])
abbrev Row := Spot × Spot
abbrev drow (r : Row) : D := .tup [dspot r.1, dspot r.2]
structure RowP (ms : List Int) (n : Nat) (r : Row) : Prop where
  fst : PlP ms n r.1.1 r.1.2
  snd : PlP ms n r.2.1 r.2.2
theorem RowP.num {ms : List Int} {n : Nat} {r : Row} (h : RowP ms n r) (hM : MsP ms) (hn : n ≤ 17) : Num 4 3402 (drow r) := by
  refine (Num.tup (k := 3) (w := 1700) fun x hx => ?_).up (by omega) (by simp)
  simp only [List.mem_cons, List.not_mem_nil, or_false] at hx
  rcases hx with rfl | rfl
  · exact h.fst.num hM hn
  · exact h.snd.num hM hn
theorem depthAll_le {ks : List NestedKey} {c : Nat} (h : ∀ k ∈ ks, k.depth ≤ c) : NestedKey.depthAll ks ≤ c := by
  induction ks with
  | nil => exact Nat.zero_le _
  | cons k ks ih =>
    rw [NestedKey.depthAll]
    have h1 := h k List.mem_cons_self
    have h2 := ih fun x hx => h x (List.mem_cons_of_mem _ hx)
    omega
def preFe49 (C : Addr) (ds : List D) : Prop := ∃ (ms hs ms2 hs2 : List Int), ds = [frD C ms hs, frD C ms2 hs2] ∧ MsQ ms ∧ HuP hs ∧ MsQ ms2 ∧ HuP hs2
def fFe49 : List D → D
  | [.ins _ _ [.tup ms, .tup hs], .ins _ _ [.tup ms2, .tup hs2]] => .bl (decide (uints ms = uints ms2 ∧ uints hs = uints hs2))
  | _ => .non
theorem fFe49_is (C : Addr) (ms hs ms2 hs2 : List Int) : fFe49 [frD C ms hs, frD C ms2 hs2] = .bl (decide (ms = ms2 ∧ hs = hs2)) := by
  show D.bl (decide (uints (dints ms) = uints (dints ms2) ∧ uints (dints hs) = uints (dints hs2))) = _
  rw [uints_dints, uints_dints, uints_dints, uints_dints]
theorem num_cons49 {k w v : Nat} {x : D} {xs : List D} (h : Num k w x) (hs : Num (k + 1) v (.lst xs)) : Num (k + 1) (w + 1 + v) (.lst (x :: xs)) := by
  refine ⟨⟨?_, ?_, ?_, ?_, ?_⟩, ?_⟩
  · have := hs.plain
    rw [D.plain] at this ⊢
    rw [D.plains, h.plain, this]
    rfl
  · have := hs.able
    rw [D.py, PyData.showable] at this ⊢
    rw [D.pys, PyData.showableAll, h.able, this]
    rfl
  · have h1 := hs.deep
    have h2 := h.deep
    simp only [D.py, D.pys, PyData.depth, PyData.depthAll] at *
    omega
  · have := hs.short
    rw [D.py, PyData.leavesShort] at this ⊢
    rw [D.pys, PyData.leavesShortAll, h.short, this]
    rfl
  · have h1 := hs.wt
    have h2 := h.wt
    simp only [D.py, D.pys, PyData.weight, PyData.weightAll] at *
    omega
  · have := hs.flat
    rw [D.numB] at this ⊢
    rw [D.nums, h.flat, this]
    rfl
theorem num_nil49 (k : Nat) : Num (k + 1) 0 (.lst []) := (Num.lst (k := k) (w := 0) (xs := []) fun x hx => (nomatch hx)).up (Nat.le_refl _) (by simp)

def CoZ : List Int → List Int → Prop
  | [], [] => True
  | m :: ms, i :: is => i ∣ m ∧ CoZ ms is
  | _, _ => False
def restT (is x : List Int) : List Int := List.zipWith (fun a i => a % i) x is
def restS (is : List Int) (S : List (List Int)) : List (List Int) := S.map (restT is)
def restTab (is : List Int) (T : List (List (List Int))) : List (List (List Int)) := T.map (restS is)
def restTu (is : List Int) (t : Turn) : Turn := (t.1, restTab is t.2)
def restSp (is : List Int) (p : Spot) : Spot := (p.1, restS is p.2)
theorem CoZ.len : ∀ {ms is : List Int}, CoZ ms is → is.length = ms.length
  | [], [], _ => rfl
  | m :: ms, i :: is, h => by rw [List.length_cons, List.length_cons, CoZ.len h.2]
theorem rest_zt : ∀ {ms is : List Int}, CoZ ms is → restT is (zt ms) = zt is
  | [], [], _ => rfl
  | m :: ms, i :: is, h => by
    show (0 : Int) % i :: restT is (zt ms) = 0 :: zt is
    rw [rest_zt h.2, Int.zero_emod]
theorem rest_tie {is x : List Int} (hI : MsP is) (hl : x.length = is.length) : TieP is (restT is x) := by
  refine tieP_of hI (by unfold restT; rw [List.length_zipWith]; omega) fun c m y e1 e2 => ?_
  obtain ⟨z, ez⟩ := get_of_len (ys := x) (by omega) e1
  unfold restT at e2
  rw [zw_get ez e1] at e2
  exact ⟨z, (Option.some.inj e2).symm⟩
theorem rest_tab {ms is : List Int} {n : Nat} {T : List (List (List Int))} (h : CoZ ms is) (hI : MsP is) (hT : TabP ms n T) : TabP is n (restTab is T) := by
  refine ⟨by rw [restTab, List.length_map, hT.1], fun i r e => ?_⟩
  unfold restTab at e
  rw [List.getElem?_map] at e
  cases e2 : T[i]? with
  | none => rw [e2] at e; cases e
  | some r0 =>
    rw [e2] at e
    cases e
    obtain ⟨h1, h2⟩ := hT.2 i r0 e2
    refine ⟨by rw [restS, List.length_map, h1], fun t ht => ?_⟩
    obtain ⟨t0, h3, rfl⟩ := List.mem_map.mp ht
    exact rest_tie hI (by rw [(h2 t0 h3).1, h.len])
theorem rest_turn {ms is hs : List Int} {t : Turn} (h : CoZ ms is) (hI : MsP is) (ht : TurnP ms hs t) : TurnP is hs (restTu is t) := ⟨ht.lead, rest_tab h hI ht.tab⟩
theorem rest_pl {ms is : List Int} {n : Nat} {p : Spot} (h : CoZ ms is) (hI : MsP is) (hp : PlP ms n p.1 p.2) : PlP is n (restSp is p).1 (restSp is p).2 := by
  refine ⟨hp.lt, by show (p.2.map _).length = _; rw [List.length_map, hp.len], fun t ht => ?_, ?_⟩
  · obtain ⟨t0, h0, rfl⟩ := List.mem_map.mp ht
    exact rest_tie hI (by rw [(hp.tie t0 h0).1, h.len])
  · show (p.2.map (restT is))[p.1]? = _
    rw [List.getElem?_map, hp.own]
    exact congrArg some (rest_zt h)
structure CoM (ms is : List Int) : Prop where
  m : MsQ ms
  i : MsQ is
  z : CoZ ms is
theorem coz_refl : ∀ is : List Int, CoZ is is
  | [] => trivial
  | i :: is => ⟨Int.dvd_refl i, coz_refl is⟩
theorem CoM.self {ms is : List Int} (h : CoM ms is) : CoM is is := ⟨h.i, h.i, coz_refl is⟩
theorem CoZ.all : ∀ {ms is : List Int}, CoZ ms is → ∀ (c : Nat) m i, ms[c]? = some m → is[c]? = some i → i ∣ m
  | [], [], _, c, m, i, h, _ => by simp at h
  | a :: ms, b :: is, h, 0, m, i, e1, e2 => by simp at e1 e2; subst e1 e2; exact h.1
  | a :: ms, b :: is, h, c + 1, m, i, e1, e2 => CoZ.all h.2 c m i (by simpa using e1) (by simpa using e2)
def preRs82 (ds : List D) : Prop := ∃ (is : List Int) (S : List (List Int)), ds = [.tup (dints is), dsays S] ∧ MsP is ∧ S.length ≤ 17 ∧ ∀ t ∈ S, t.length = is.length ∧ ∀ x ∈ t, 0 ≤ x ∧ x ≤ 4
def fRs82 : List D → D
  | [.tup is, d] => dsays (restS (uints is) (usays d))
  | _ => .non
theorem fRs82_is (is : List Int) (S : List (List Int)) : fRs82 [.tup (dints is), dsays S] = dsays (restS is S) := by
  show dsays (restS (uints (dints is)) (usays (dsays S))) = _
  rw [uints_dints, usays_dsays]
def fLs82 : List D → D
  | [.tup is, .tup x] => .tup (dints (restT (uints is) (uints x)))
  | _ => .non
theorem fLs82_is (is x : List Int) : fLs82 [.tup (dints is), .tup (dints x)] = .tup (dints (restT is x)) := by
  show D.tup (dints (restT (uints (dints is)) (uints (dints x)))) = _
  rw [uints_dints, uints_dints]
theorem coz_of : ∀ {ms is : List Int}, is.length = ms.length → ((ms.zip is).all fun p => p.1 % p.2 == 0) = true → CoZ ms is
  | [], [], _, _ => trivial
  | m :: ms, i :: is, h, e => by
    rw [List.zip_cons_cons, List.all_cons, Bool.and_eq_true] at e
    exact ⟨Int.dvd_of_emod_eq_zero (by simpa using e.1), coz_of (by simpa using h) e.2⟩
theorem dints_get_of {xs : List Int} {c : Nat} {d : D} (h : (dints xs)[c]? = some d) : ∃ x, xs[c]? = some x ∧ d = .int x := by
  unfold dints at h
  rw [List.getElem?_map] at h
  cases e : xs[c]? with
  | none => rw [e] at h; cases h
  | some x => rw [e] at h; exact ⟨x, rfl, (Option.some.inj h).symm⟩

/-- a measure coarser than ms -/
def CoP51 (ms : List Int) (d : D) : Prop := ∃ is : List Int, d = .tup (dints is) ∧ CoM ms is
theorem meas_inv51 {d : D} (h : D.meas d = true) : ∃ is : List Int, d = .tup (dints is) ∧ MsQ is := by
  cases d with
  | tup xs =>
    rw [D.meas, Bool.and_eq_true, Bool.and_eq_true, Bool.and_eq_true, decide_eq_true_eq, decide_eq_true_eq, decide_eq_true_eq] at h
    obtain ⟨⟨⟨h1, h2⟩, h3⟩, h4⟩ := h
    have key : ∀ x ∈ xs, ∃ i : Int, x = .int i ∧ 2 ≤ i ∧ i ≤ 5 := fun x hx => by
      have := List.all_eq_true.mp h3 x hx
      cases x <;> first | (cases this; done) | skip
      rename_i i
      rw [D.within, Bool.and_eq_true, decide_eq_true_eq, decide_eq_true_eq] at this
      exact ⟨i, rfl, this⟩
    have e : dints (uints xs) = xs := by
      clear h1 h2 h3 h4
      induction xs with
      | nil => rfl
      | cons x xs ih =>
        obtain ⟨i, rfl, _⟩ := key _ List.mem_cons_self
        have := ih fun y hy => key y (List.mem_cons_of_mem _ hy)
        show D.int i :: dints (uints xs) = _
        rw [this]
    have hl : (uints xs).length = xs.length := by rw [← dints_length (uints xs), e]
    refine ⟨uints xs, by rw [e], ⟨by omega, by omega, fun m hm => ?_⟩, by rw [e]; exact h4⟩
    obtain ⟨i, ei, q⟩ := key (.int m) (by rw [← e]; exact List.mem_map.mpr ⟨m, hm, rfl⟩)
    cases ei
    exact q
  | _ => cases h
theorem cop_meas51 {ms : List Int} {d : D} (h : CoP51 ms d) : D.meas d = true := by
  obtain ⟨is, rfl, hc⟩ := h
  exact meas_of hc.i
def preIc51 (ds : List D) : Prop := ∃ (ms : List Int) (d : D), ds = [.tup (dints ms), d] ∧ MsQ ms ∧ d.plain = true
noncomputable def fIc51 : List D → D
  | [.tup ms, d] => .bl (cB (CoP51 (uints ms) d))
  | _ => .non
theorem fIc51_is (ms : List Int) (d : D) : fIc51 [.tup (dints ms), d] = .bl (cB (CoP51 ms d)) := by
  show D.bl (cB (CoP51 (uints (dints ms)) d)) = _
  rw [uints_dints]
def preRn51 (C : Addr) (ds : List D) : Prop := ∃ (ms hs : List Int) (d : D), ds = [frD C ms hs, d] ∧ MsQ ms ∧ d.plain = true
def rRn51 (N : Addr) : List D → Out → Prop
  | [.ins _ _ [.tup ms, _], d], o => (CoP51 (uints ms) d ∧ o = .ret .non) ∨ (¬ CoP51 (uints ms) d ∧ o = .exc N "thing" d)
  | _, _ => False
theorem rRn51_is (C N : Addr) (ms hs : List Int) (d : D) (o : Out) : rRn51 N [frD C ms hs, d] o ↔ (CoP51 ms d ∧ o = .ret .non) ∨ (¬ CoP51 ms d ∧ o = .exc N "thing" d) := by
  show ((CoP51 (uints (dints ms)) d ∧ o = .ret .non) ∨ (¬ CoP51 (uints (dints ms)) d ∧ o = .exc N "thing" d)) ↔ _
  rw [uints_dints]
/-- what a door answers -/
def DoO51 (N : Addr) (ms : List Int) (d : D) (f : List Int → D) (o : Out) : Prop := (∃ is, d = .tup (dints is) ∧ CoM ms is ∧ o = .ret (f is)) ∨ (¬ CoP51 ms d ∧ o = .exc N "thing" d)
def preCf51 (C : Addr) (ds : List D) : Prop := ∃ (ms hs : List Int) (d : D), ds = [frD C ms hs, d] ∧ MsQ ms ∧ d.plain = true ∧ HuP hs
def rCf51 (N : Addr) : List D → Out → Prop
  | [.ins C ns [.tup ms, hs], d], o => DoO51 N (uints ms) d (fun is => .ins C ns [.tup (dints is), hs]) o
  | _, _ => False
theorem rCf51_is (C N : Addr) (ms hs : List Int) (d : D) (o : Out) : rCf51 N [frD C ms hs, d] o ↔ DoO51 N ms d (fun is => frD C is hs) o := by
  show DoO51 N (uints (dints ms)) d (fun is => .ins C _ [.tup (dints is), .tup (dints hs)]) o ↔ _
  rw [uints_dints]
def preCp51 (C : Addr) (ds : List D) : Prop := ∃ (ms hs : List Int) (d : D) (p : Spot), ds = [frD C ms hs, d, dspot p] ∧ MsQ ms ∧ d.plain = true ∧ hs.length ≤ 16 ∧ PlP ms hs.length p.1 p.2
def rCp51 (N : Addr) : List D → Out → Prop
  | [.ins _ _ [.tup ms, _], d, p], o => DoO51 N (uints ms) d (fun is => dspot (restSp is (uspot p))) o
  | _, _ => False
theorem rCp51_is (C N : Addr) (ms hs : List Int) (d : D) (p : Spot) (o : Out) : rCp51 N [frD C ms hs, d, dspot p] o ↔ DoO51 N ms d (fun is => dspot (restSp is p)) o := by
  show DoO51 N (uints (dints ms)) d (fun is => dspot (restSp is (uspot (dspot p)))) o ↔ _
  rw [uints_dints, uspot_dspot]
def preCt51 (C : Addr) (ds : List D) : Prop := ∃ (ms hs : List Int) (d : D) (T : List (List (List Int))), ds = [frD C ms hs, d, dtab T] ∧ MsQ ms ∧ d.plain = true ∧ hs.length ≤ 16 ∧ TabP ms hs.length T
def rCt51 (N : Addr) : List D → Out → Prop
  | [.ins _ _ [.tup ms, _], d, t], o => DoO51 N (uints ms) d (fun is => dtab (restTab is (utab t))) o
  | _, _ => False
theorem rCt51_is (C N : Addr) (ms hs : List Int) (d : D) (T : List (List (List Int))) (o : Out) : rCt51 N [frD C ms hs, d, dtab T] o ↔ DoO51 N ms d (fun is => dtab (restTab is T)) o := by
  show DoO51 N (uints (dints ms)) d (fun is => dtab (restTab is (utab (dtab T)))) o ↔ _
  rw [uints_dints, utab_dtab]
def preCu51 (C : Addr) (ds : List D) : Prop := ∃ (ms hs : List Int) (d : D) (t : Turn), ds = [frD C ms hs, d, dturn t] ∧ MsQ ms ∧ d.plain = true ∧ hs.length ≤ 16 ∧ TurnP ms hs t
def rCu51 (N : Addr) : List D → Out → Prop
  | [.ins _ _ [.tup ms, _], d, t], o => DoO51 N (uints ms) d (fun is => dturn (restTu is (uturn t))) o
  | _, _ => False
theorem rCu51_is (C N : Addr) (ms hs : List Int) (d : D) (t : Turn) (o : Out) : rCu51 N [frD C ms hs, d, dturn t] o ↔ DoO51 N ms d (fun is => dturn (restTu is t)) o := by
  show DoO51 N (uints (dints ms)) d (fun is => dturn (restTu is (uturn (dturn t)))) o ↔ _
  rw [uints_dints, uturn_dturn]
def preAk51 (N : Addr) (R : Out → Prop) : Prop := ∀ o, R o → (∃ d, o = .ret d) ∨ ∃ d, o = .exc N "thing" d
def resAk51 (N : Addr) (R : Out → Prop) (d : D) : Prop := ∃ o, R o ∧ (o = .ret d ∨ ∃ x, o = .exc N "thing" x ∧ d = .lst [.str "none", x])
def preLs51 (ds : List D) : Prop := ∃ is x : List Int, ds = [.tup (dints is), .tup (dints x)] ∧ MsP is ∧ x.length = is.length ∧ ∀ y ∈ x, 0 ≤ y ∧ y ≤ 4
def preDo51 (m : Nat) (ds : List D) : Prop := m < 4000000 ∧ ∃ (ms hs : List Int) (d : D), ds = [.tup (dints ms), .tup (dints hs), d] ∧ MsQ ms ∧ HuP hs ∧ Fit d
def psiDo51 (ds : List D) (m m' : Nat) (d : D) : Prop := m' ≤ m + 8000 ∧ d = .bl true
def preIt51 (m : Nat) (ds : List D) : Prop := m < 3000000 ∧ ∃ ms : List Int, ds = [.tup (dints ms)] ∧ MsQ ms
def psiIt51 (ds : List D) (m m' : Nat) (d : D) : Prop := m' ≤ m + 2000 ∧ ∃ L : List D, d = .lst L ∧ (∀ x ∈ L, Fit x) ∧ L.length ≤ 200
theorem doO_pre51 {N : Addr} {ms : List Int} {d : D} {f : List Int → D} {R : Out → Prop} (h : ∀ o, R o → DoO51 N ms d f o) : preAk51 N R := fun o ho => by
  rcases h o ho with ⟨is, _, _, e⟩ | ⟨_, e⟩
  · exact .inl ⟨_, e⟩
  · exact .inr ⟨_, e⟩
theorem doO_res51 {N : Addr} {ms : List Int} {d r : D} {f : List Int → D} {R : Out → Prop} (h : ∀ o, R o → DoO51 N ms d f o) (hr : resAk51 N R r) :
    (∃ is, d = .tup (dints is) ∧ CoM ms is ∧ r = f is) ∨ (¬ CoP51 ms d ∧ r = .lst [.str "none", d]) := by
  obtain ⟨o, ho, hr⟩ := hr
  rcases h o ho with ⟨is, e1, e2, e⟩ | ⟨e1, e⟩
  · subst e
    rcases hr with e | ⟨x, e, _⟩
    · cases e; exact .inl ⟨is, e1, e2, rfl⟩
    · cases e
  · subst e
    rcases hr with e | ⟨x, e, rfl⟩
    · cases e
    · obtain ⟨_, _, rfl⟩ := Out.exc.inj e
      exact .inr ⟨e1, rfl⟩
theorem cop_iff51 {ms is : List Int} (hM : MsQ ms) (hI : MsQ is) (hl : is.length = ms.length) {g : Int × Int → Bool} (hg : ∀ p : Int × Int, 0 < p.2 → (g p = true ↔ p.1 % p.2 = 0)) :
    cB (CoP51 ms (.tup (dints is))) = ((ms.zip is).map g).all id := by
  have pos : ∀ p ∈ ms.zip is, 0 < p.2 := fun p hp => by
    have := hI.1.2.2 p.2 (List.of_mem_zip hp).2
    omega
  have key : CoP51 ms (.tup (dints is)) ↔ ((ms.zip is).map g).all id = true := by
    rw [List.all_map, List.all_eq_true]
    constructor
    · rintro ⟨is2, e, hc⟩ p hp
      cases dints_inj (D.tup.inj e)
      obtain ⟨c, hcp⟩ := List.getElem?_of_mem hp
      obtain ⟨h1, h2⟩ := List.getElem?_zip_eq_some.mp hcp
      exact (hg p (pos p hp)).mpr (Int.emod_eq_zero_of_dvd (hc.z.all c _ _ h1 h2))
    · intro h
      refine ⟨is, rfl, hM, hI, coz_of hl (List.all_eq_true.mpr fun p hp => ?_)⟩
      rw [beq_iff_eq]
      exact (hg p (pos p hp)).mp (h p hp)
  by_cases h : CoP51 ms (.tup (dints is))
  · rw [cB_true h, key.mp h]
  · rw [cB_false h]
    cases e : ((ms.zip is).map g).all id with
    | false => rfl
    | true => exact absurd (key.mpr e) h
theorem div_mul51 (p : Int × Int) (h : 0 < p.2) : (decide (p.1 / p.2 * p.2 = p.1) = true ↔ p.1 % p.2 = 0) := by
  rw [decide_eq_true_eq]
  have := Int.emod_def p.1 p.2
  rw [Int.mul_comm p.2] at this
  constructor <;> intro h2 <;> omega
theorem fit_ints51 {is : List Int} (hl : is.length ≤ 8) (h : ∀ i ∈ is, 0 ≤ i ∧ i ≤ 100) : Fit (.tup (dints is)) := by
  have hs : Sms (10 ^ 20) 0 ((15 + 1) * (dints is).length) (dints is) := sms_all fun x hx => by
    obtain ⟨i, hi, rfl⟩ := List.mem_map.mp hx
    have := h i hi
    exact sm_int (by omega) (by omega) (by omega) (by omega)
  refine Fit.of hs.tup (by omega) (by omega) (by omega) ?_
  rw [dints_length]; omega
theorem ms_sms51 {ms : List Int} (hQ : MsQ ms) : Sms (10 ^ 20) 0 60 (dints ms) := by
  have hs : Sms (10 ^ 20) 0 ((15 + 1) * (dints ms).length) (dints ms) := sms_all fun x hx => by
    obtain ⟨i, hi, rfl⟩ := List.mem_map.mp hx
    have := hQ.1.2.2 i hi
    exact sm_int (by omega) (by omega) (by omega) (by omega)
  have := hQ.1.2.1
  rw [dints_length] at hs
  exact hs.up (by omega) (by omega) (by omega)
theorem fit_sm51 {k w : Nat} {d : D} (h : Sm (10 ^ 20) k w d) (hk : k ≤ 50) (hw : w ≤ 40000) : Fit d := Fit.of h (by omega) (by omega) hk hw
theorem dep_ms51 {ms : List Int} (hQ : MsQ ms) : (D.tup (dints ms)).py.depth ≤ 1 := (ms_sms51 hQ).tup.itm.deep
theorem items_fit51 {ms : List Int} (hQ : MsQ ms) : ∀ d ∈ [D.tup (dints ms), D.lst (dints ms), D.tup (Wt.cutD (dints ms) none (some (-1))), D.tup (dints ms ++ [D.int 2]), D.tup (dints ms).reverse, D.tup [], D.non, D.int 2, D.str (Str.ofString "2"), D.lst [D.int 2], D.dic [], D.tup [D.bl true]], Fit d := by
  have s := ms_sms51 hQ
  have lit : ∀ d : D, itmB 3 70 d = true → d.smallB (10 ^ 20) = true → Fit d := fun d h1 h2 => fit_sm51 ⟨Itm.of h1, h2⟩ (by omega) (by omega)
  intro d hd
  simp only [List.mem_cons, List.not_mem_nil, or_false] at hd
  rcases hd with rfl | rfl | rfl | rfl | rfl | rfl | rfl | rfl | rfl | rfl | rfl | rfl
  · exact fit_sm51 s.tup (by omega) (by omega)
  · exact fit_sm51 s.lst (by omega) (by omega)
  · exact fit_sm51 (s.sub (cut_sub _ _ _)).tup (by omega) (by omega)
  · have e : Sms (10 ^ 20) 0 16 [D.int 2] := Sms.one (w := 15) (sm_int (by omega) (by omega) (by omega) (by omega))
    exact fit_sm51 (s.app e).tup (by omega) (by omega)
  · exact fit_sm51 s.rev.tup (by omega) (by omega)
  · exact lit _ (by decide +kernel) (by decide +kernel)
  · exact lit _ (by decide +kernel) (by decide +kernel)
  · exact lit _ (by decide +kernel) (by decide +kernel)
  · exact lit _ (by decide +kernel) (by decide +kernel)
  · exact lit _ (by decide +kernel) (by decide +kernel)
  · exact lit _ (by decide +kernel) (by decide +kernel)
  · exact lit _ (by decide +kernel) (by decide +kernel)
theorem doO_yes51 {N : Addr} {ms is : List Int} {d r : D} {f : List Int → D} {R : Out → Prop} (h : ∀ o, R o → DoO51 N ms d f o) (hr : resAk51 N R r) (e : d = .tup (dints is)) (hc : CoM ms is) : r = f is := by
  rcases doO_res51 h hr with ⟨is2, e2, _, rfl⟩ | ⟨hn, _⟩
  · rw [e] at e2
    rw [dints_inj (D.tup.inj e2)]
  · exact absurd ⟨is, e, hc⟩ hn
theorem doO_no51 {N : Addr} {ms : List Int} {d r : D} {f : List Int → D} {R : Out → Prop} (h : ∀ o, R o → DoO51 N ms d f o) (hr : resAk51 N R r) (hn : ¬ CoP51 ms d) : r = .lst [.str "none", d] := by
  rcases doO_res51 h hr with ⟨is2, e2, hc, rfl⟩ | ⟨_, rfl⟩
  · exact absurd ⟨is2, e2, hc⟩ hn
  · rfl
theorem sm_none51 : Sm (10 ^ 20) 2 40 (.str "none") := ⟨Itm.of (by decide +kernel), by decide +kernel⟩
theorem shows_no51 {d : D} (h : Fit d) : Shows (.lst [.lst [.lst [.str "none", d], .lst [.str "none", d], .lst [.str "none", d]], .lst [.str "none", d]]) := by
  obtain ⟨b, k, w, h, hb, hb2, hk, hw⟩ := h
  have n2 : Sm b (k + 2) 40 (.str "none") := sm_none51.up (by omega) (by omega) (by omega)
  have h2 : Sm b (k + 2) w d := h.up (by omega) (by omega) (by omega)
  have e : Sm b (k + 3) (40 + 1 + (w + 1)) (.lst [.str "none", d]) := ((Sms.one n2).app (Sms.one h2)).lst
  have e3 := (((Sms.one e).app (Sms.one e)).app (Sms.one e)).lst
  have e' : Sm b (k + 4) (40 + 1 + (w + 1)) (.lst [.str "none", d]) := e.up (by omega) (by omega) (by omega)
  have e4 := ((Sms.one e3).app (Sms.one e')).lst
  exact e4.itm.show (by omega) (by omega)
theorem shows_yes51 {ms hs is : List Int} {p : Spot} {T : List (List (List Int))} {t : Turn} (hc : CoM ms is) (hn : hs.length ≤ 16) (hp : PlP ms hs.length p.1 p.2) (hT : TabP ms hs.length T) (ht : TurnP ms hs t) :
    Shows (.lst [dspot (restSp is p), dtab (restTab is T), dturn (restTu is t)]) := by
  have h1 : Num 4 1700 (dspot (restSp is p)) := ((rest_pl hc.z hc.i.1 hp).num hc.i.1 (by omega)).up (by omega) (by omega)
  have h2 : Num 4 16000 (dtab (restTab is T)) := ((rest_tab hc.z hc.i.1 hT).num hc.i.1 hn).up (by omega) (by omega)
  have h3 : Num 4 32002 (dturn (restTu is t)) := (rest_turn hc.z hc.i.1 ht).num hc.i.1 hn
  exact (num_cons49 h1 (num_cons49 h2 (num_cons49 h3 (num_nil49 4)))).shows (by omega) (by omega)

local macro_rules | `(tactic| walk_at "ev1") => `(tactic| first
  | with_reducible refine Wl.v_rep0 (by assumption) ?_
  | ((with_reducible refine And.intro Wl.pStem ?_); (rw [Wl.fStem_is]))
  | ((with_reducible refine And.intro (Wl.pNou (by assumption)) ?_); (rw [Wl.fNou_is]))
  | ((with_reducible refine And.intro (Wl.pTT (by assumption) (by assumption) (by assumption)) ?_); (first | rw [Wl.fSum_is] | rw [Wl.fLess_is])))
local macro_rules | `(tactic| walk_at "yes") => `(tactic| first | rw [if_pos (decide_eq_true (by assumption))] | rw [if_pos (decide_eq_true (by omega))])
local macro_rules | `(tactic| walk_at "no") => `(tactic| first | rw [if_neg (by rw [decide_eq_false (by assumption)]; exact Bool.false_ne_true)] | rw [if_neg (by rw [decide_eq_false (by omega)]; exact Bool.false_ne_true)])
local macro_rules | `(tactic| walk_at "xv") => `(tactic| (repeat (first
  | with_reducible refine Wt.e_isX (by with_unfolding_all rfl) (by first | exact L2.ClsV.own _ | exact L2.ClsV.ty _) (We.Ex.toExF (by assumption)) (by assumption) ?_
  | with_reducible refine Wt.e_isXT2 (by with_unfolding_all rfl) (by first | exact L2.ClsV.own _ | exact L2.ClsV.ty _) (by first | exact L2.ClsV.own _ | exact L2.ClsV.ty _) (We.Ex.toExF (by assumption)) (by assumption) ?_
  | with_reducible refine Wt.e_isXT3 (by with_unfolding_all rfl) (by first | exact L2.ClsV.own _ | exact L2.ClsV.ty _) (by first | exact L2.ClsV.own _ | exact L2.ClsV.ty _) (by first | exact L2.ClsV.own _ | exact L2.ClsV.ty _) (We.Ex.toExF (by assumption)) (by assumption) ?_
  | with_reducible refine Wt.e_isXT4 (by with_unfolding_all rfl) (by first | exact L2.ClsV.own _ | exact L2.ClsV.ty _) (by first | exact L2.ClsV.own _ | exact L2.ClsV.ty _) (by first | exact L2.ClsV.own _ | exact L2.ClsV.ty _) (by first | exact L2.ClsV.own _ | exact L2.ClsV.ty _) (We.Ex.toExF (by assumption)) (by assumption) ?_
  | with_reducible refine Wt.e_isXT5 (by with_unfolding_all rfl) (by first | exact L2.ClsV.own _ | exact L2.ClsV.ty _) (by first | exact L2.ClsV.own _ | exact L2.ClsV.ty _) (by first | exact L2.ClsV.own _ | exact L2.ClsV.ty _) (by first | exact L2.ClsV.own _ | exact L2.ClsV.ty _) (by first | exact L2.ClsV.own _ | exact L2.ClsV.ty _) (We.Ex.toExF (by assumption)) (by assumption) ?_
  | with_reducible refine Wt.e_isXT6 (by with_unfolding_all rfl) (by first | exact L2.ClsV.own _ | exact L2.ClsV.ty _) (by first | exact L2.ClsV.own _ | exact L2.ClsV.ty _) (by first | exact L2.ClsV.own _ | exact L2.ClsV.ty _) (by first | exact L2.ClsV.own _ | exact L2.ClsV.ty _) (by first | exact L2.ClsV.own _ | exact L2.ClsV.ty _) (by first | exact L2.ClsV.own _ | exact L2.ClsV.ty _) (We.Ex.toExF (by assumption)) (by assumption) ?_
  | with_reducible refine Wt.e_isXT7 (by with_unfolding_all rfl) (by first | exact L2.ClsV.own _ | exact L2.ClsV.ty _) (by first | exact L2.ClsV.own _ | exact L2.ClsV.ty _) (by first | exact L2.ClsV.own _ | exact L2.ClsV.ty _) (by first | exact L2.ClsV.own _ | exact L2.ClsV.ty _) (by first | exact L2.ClsV.own _ | exact L2.ClsV.ty _) (by first | exact L2.ClsV.own _ | exact L2.ClsV.ty _) (by first | exact L2.ClsV.own _ | exact L2.ClsV.ty _) (We.Ex.toExF (by assumption)) (by assumption) ?_
  | with_reducible refine Wt.e_xfH (by with_unfolding_all rfl) (We.Ex.toExF (by assumption)) (We.Ex.no (by assumption)) ?_
  | walk_at "ev1")))
local macro_rules | `(tactic| walk_at "ev1") => `(tactic| first
  | with_reducible refine Wl.e_ofD (by with_unfolding_all rfl) ?_
  | with_reducible refine Wl.e_ofOwn (by with_unfolding_all rfl) (by with_unfolding_all rfl) ?_ ?_ ?_ ?_
  | fail)
section
variable {P : Program} {w : World} {K : PySem.W.Frag}
variable {mg : Str → Option Value} {base : Heap} {cFrame cNoFrame cNoHue cNoMeasure cNoNumber cNoTimes cTooMany cTurnError : Addr}
theorem ok_is_whole {f : Addr} {fd : FuncData} (F : Fun K "is_whole" "is_whole" s_is_whole f fd)
    (m_bool : mg "bool" = none)
    (m_int : mg "int" = none)
    (m_isinstance : mg "isinstance" = none) :
    FnOk P w K mg base CX0 1 f fd ["thing"] (SpP K preWhole fWhole) := by
  refine F.ok sc_is_whole (fun vs H Q E h => ?len) (fun cdv A outer s H vs Q E hr h => ⟨_, (pss_one (ps_ret (pe_and (pe_callB (show CallR _ _ (rIsi K) from call_isi) (by rfl) m_isinstance (by decide +kernel) (pa_cons (pv 0) (pa_cons (pe_bltn (v := .ty "int") (by rfl) m_int (by decide +kernel) rfl) pa_nil))) (pe_one (pe_not (pe_callB (show CallR _ _ (rIsi K) from call_isi) (by rfl) m_isinstance (by decide +kernel) (pa_cons (pv 0) (pa_cons (pe_bltn (v := .ty "bool") (by rfl) m_bool (by decide +kernel) rfl) pa_nil)))))))), ?r⟩)
  case len =>
    obtain ⟨B, ds, _, is, ⟨d, rfl, _⟩, _⟩ := h
    exact is.length
  case r =>
    refine body_P h fun ds hp hl => ?_
    obtain ⟨d, rfl, ho⟩ := hp
    refine s_ret (e_andV (e_isi kit_int (e_var rfl ⟨ho, _, rfl, ?_⟩)))
    cases d <;> first | (cases ho; done) | (exact rfl) | skip
    all_goals
      refine e_notV (e_isi kit_bool (e_var rfl ⟨rfl, _, rfl, ?_⟩))
      rfl

theorem ok_product {f : Addr} {fd : FuncData} (F : Fun K "product" "product" s_product f fd)
 :
    FnOk P w K mg base CX0 1 f fd ["numbers"] (SpP K preProd fProd) := by
  refine F.ok sc_product (fun vs H Q E h => ?len) (fun cdv A outer s H vs Q E hr h => ⟨_, (pss_cons (ps_set (i := 1) sc_product.nd rfl (by first | exact Or.inl rfl | exact Or.inr rfl) pe_int)
      (pss_cons (ps_for PassesOwn.never rfl (pi_tup (pv 0)) (pg_name (i := 2) sc_product.nd rfl (by first | exact Or.inl rfl | exact Or.inr rfl)) (pss_one (ps_aug (i := 1) sc_product.nd rfl (by first | exact Or.inl rfl | exact Or.inr rfl) (pv 2) iop_mul)))
      (pss_one (ps_ret (pv 1))))), ?r⟩)
  case len =>
    obtain ⟨B, ds, _, is, ⟨ns, rfl, _⟩, _⟩ := h
    exact is.length
  case r =>
    refine body_P h fun ds hp hl => ?_
    obtain ⟨ns, rfl, hn⟩ := hp
    refine s_seq (s_asg (e_int ?_))
    refine s_seq (s_forT (e_var rfl ⟨_, rfl, fun i _ ρ' => ∃ x, ρ' = [some (.dat (.tup (dints ns))), some (.dat (.int (D.prod (dints (ns.take i))))), x], ⟨_, rfl⟩, ?_, ?_⟩))
    · intro i n ρ' d hd hI
      obtain ⟨x, rfl⟩ := hI
      have hi : i < ns.length := by
        have := (List.getElem?_eq_some_iff.mp hd).1
        simpa [dints] using this
      have ed : d = .int ns[i] := by
        rw [dints, List.getElem?_map, List.getElem?_eq_getElem hi] at hd
        exact (Option.some.inj hd).symm
      subst ed
      have hb := hn ns[i] (List.getElem_mem hi)
      refine s_aug rfl (e_var rfl (v_I (.inr ⟨by omega, by omega⟩) ?_))
      refine ⟨some (.dat (.int ns[i])), ?_⟩
      rw [prod_take hi]
      rfl
    · intro n ρ' hI
      obtain ⟨x, rfl⟩ := hI
      have e : ns.take (dints ns).length = ns := by
        rw [dints, List.length_map, List.take_length]
      rw [e]
      exact s_ret (e_var rfl rfl)

theorem ok_Frame_eq {f : Addr} {fd : FuncData} (F : Fun K "__eq__" "Frame.__eq__" s_Frame_eq f fd)
    (k_Frame : Own2 K cFrame "measure" "hues")
    (n_Frame : NeK K cFrame) (gn_Frame : mg "Frame" = some (.ref cFrame))
    (m_isinstance : mg "isinstance" = none) :
    FnOk P w K mg base CX0 1 f fd ["self", "other"] (SpP K (preFe49 cFrame) fFe49) := by
  refine F.ok sc_Frame_eq (fun vs H Q E h => ?len) (fun cdv A outer s H vs Q E hr h => ⟨_, (pss_one (ps_ret (pe_and (pe_callB (show CallR _ _ (rIsC cFrame) from C8.call_isC (n_Frame.ic k_Frame.cls)) (by rfl) m_isinstance (by decide +kernel) (pa_cons (pv 1) (pa_cons (pe_glob (v := .ref cFrame) (by rfl) gn_Frame rfl) pa_nil))) (pe_and (pe_cmpR (show OpR _ _ (rEqD K) from op_eqD hr.units) (pe_fldK (K := K) rfl (pv 0) rfl) (pe_fldK (K := K) rfl (pv 1) rfl) (nomark _)) (pe_one (pe_cmpR (show OpR _ _ (rEqD K) from op_eqD hr.units) (pe_fldK (K := K) rfl (pv 0) rfl) (pe_fldK (K := K) rfl (pv 1) rfl) (nomark _))))))), ?r⟩)
  case len =>
    obtain ⟨B, ds, _, is, ⟨ms, hs, ms2, hs2, rfl, _⟩, _⟩ := h
    exact is.length
  case r =>
    refine body_P h fun ds hp hl => ?_
    obtain ⟨ms, hs, ms2, hs2, rfl, hQ, hH, hQ2, hH2⟩ := hp
    rw [fFe49_is]
    walk_at "body"
    classical
    refine s_ret (e_andV (e_isC (by with_unfolding_all rfl) ⟨true, rfl, ?_⟩))
    rw [if_pos rfl]
    walk_at "ev"
    refine v_eqDn hQ.1.num hQ2.1.num (by omega) (by omega) ?_
    by_cases e : ms = ms2
    · subst e
      rw [decide_eq_true rfl]
      walk_at "ev"
      refine v_eqDn hH.num hH2.num (by omega) (by omega) ?_
      by_cases e2 : hs = hs2
      · subst e2
        simp
      · rw [decide_eq_false (fun z => e2 (dints_inj (D.tup.inj z))), decide_eq_false (fun z => e2 z.2)]
    · rw [decide_eq_false (fun z => e (dints_inj (D.tup.inj z)))]
      refine ⟨false, rfl, ?_⟩
      rw [if_neg Bool.false_ne_true, decide_eq_false (fun z => e z.1)]

theorem ok_rests {f : Addr} {fd : FuncData} (F : Fun K "rests" "rests" s_rests f fd)
    (m_tuple : mg "tuple" = none)
    (m_zip : mg "zip" = none) :
    FnOk P w K mg base CX0 1 f fd ["measure", "ties"] (SpP K preRs82 fRs82) := by
  refine F.ok sc_rests (fun vs H Q E h => ?len) (fun cdv A outer s H vs Q E hr h => ⟨_, (pss_one (ps_ret (pe_callTy (show CallR _ _ (rTupC K) from call_tupC) (by rfl) m_tuple (by decide +kernel) (pa_cons (pe_lc (own := [("tie", 2)]) (g := gName 2) (tt := tYes) rfl sc_rests.nd (pi_tup (pv 1)) (blkOk_by (own := [("tie", 2)]) (N := ["measure", "ties", "tie", "number", "limit"]) (sc := defScope s_rests) (by decide +kernel)) (fun _ _ _ _ _ => (pg_name (i := 2) sc_rests.nd rfl (by first | exact Or.inl rfl | exact Or.inr rfl))) (fun _ _ _ _ _ => pts_nil) (fun _ _ _ _ _ => (pe_callTy (show CallR _ _ (rTupC K) from call_tupC) (by rfl) m_tuple (by decide +kernel) (pa_cons (pe_lc (own := [("number", 3), ("limit", 4)]) (g := gTup K 2 (gCons (gName 3) (gCons (gName 4) gNil))) (tt := tYes) rfl sc_rests.nd (show PI _ _ _ (RZ.iZipA K _) from RZ.pi_zipA (by rfl) m_zip (pa_cons (pv 2) (pa_cons (pv 0) pa_nil))) (blkOk_by (own := [("number", 3), ("limit", 4)]) (N := ["measure", "ties", "tie", "number", "limit"]) (by show blkC _ (relS _ (defScope s_rests)) _ _ = true; decide +kernel)) (fun _ _ _ _ _ => (pg_tup rfl (pgs_cons (pg_name (i := 3) sc_rests.nd rfl (by first | exact Or.inl rfl | exact Or.inr rfl)) (pgs_cons (pg_name (i := 4) sc_rests.nd rfl (by first | exact Or.inl rfl | exact Or.inr rfl)) pgs_nil)))) (fun _ _ _ _ _ => pts_nil) (fun _ _ _ _ _ => (pe_op op_mod (pv 3) (pv 4)))) pa_nil)))) pa_nil)))), ?r⟩)
  case len =>
    obtain ⟨B, ds, _, is, ⟨is', S, rfl, _⟩, _⟩ := h
    exact is.length
  case r =>
    refine body_P h fun ds hp hl => ?_
    obtain ⟨is, S, rfl, hI, hS, hb⟩ := hp
    rw [fRs82_is]
    walk_at "body"
    walk_at "ev"
    refine e_lcTf rfl ?_
    walk_at "ev"
    refine ⟨List Int, S, fun t => .tup (dints t), fun t => .tup (dints (restT is t)), rfl, by omega, fun i t ht => ?_, ?_⟩
    · obtain ⟨h1, h2⟩ := hb t (List.mem_of_getElem? ht)
      have h3 := hI.2.1
      refine e_cb (a_cons (e_lcZi (f := fun x m => x % m) rfl rfl (by decide) ?_))
      walk_at "ev"
      refine ⟨by omega, ?_, ?_⟩
      · intro c x z e1 e3
        have hz : 0 < z := by have := hI.2.2 z (List.mem_of_getElem? e3); omega
        walk_at "ev"
        rfl
      · walk_at "ev"
        rfl
    walk_at "ev"
    show D.tup _ = D.tup _
    rw [restS, List.map_map]
    rfl

theorem ok__law_hand {f : Addr} {fd : FuncData} (F : Fun K "_law_hand" "_law_hand" s__law_hand f fd)
    (m_abs : mg "abs" = none)
    (m_int : mg "int" = none)
    (m_len : mg "len" = none) :
    FnOk P w K mg base CX0 1 f fd ["_law_script", "_law_k"] (SpR K preHand fun _ d => isHand d) := by
  refine F.ok sc__law_hand (fun vs H Q E h => ?len) (fun cdv A outer s H vs Q E hr h => ⟨_, (pss_cons (ps_set (i := 2) sc__law_hand.nd rfl (by first | exact Or.inl rfl | exact Or.inr rfl) (pe_ifExp (pt_cmpR op_lt (pv 1) (pe_callB (show CallR _ _ (rLenQ K) from call_len_seq) (by rfl) m_len (by decide +kernel) (pa_cons (pv 0) pa_nil)) (nomark _)) (pe_ix (show IxR _ (rIxL K) from ix_list) (pv 0) (pv 1) (fun _ _ => rfl)) (pe_op op_add (pe_op op_mul pe_int (pv 1)) pe_int)))
      (pss_cons (ps_set (i := 3) sc__law_hand.nd rfl (by first | exact Or.inl rfl | exact Or.inr rfl) (pe_op op_mulW (pe_op op_mod (pe_callB call_abs (by rfl) m_abs (by decide +kernel) (pa_cons (pv 2) pa_nil)) (pe_op op_powW (pe_op op_pow pe_int pe_int) pe_int)) (pe_callTy call_int1 (by rfl) m_int (by decide +kernel) (pa_cons (pe_cmpR op_ge (pe_callB call_abs (by rfl) m_abs (by decide +kernel) (pa_cons (pv 2) pa_nil)) (pe_op op_pow pe_int pe_int) (nomark _)) pa_nil))))
      (pss_one (ps_ret (pe_lst (pa_cons (pv 3) (pa_cons (pe_op op_mod (pe_op op_add (pe_op op_add (pe_op op_mul (pe_op op_mod (pv 2) pe_int) pe_int) (pe_op op_mul pe_int (pv 1))) pe_int) pe_int) (pa_cons pe_int pa_nil)))))))), ?r⟩)
  case len =>
    obtain ⟨B, ds, _, is, ⟨ns, k, rfl, _⟩, _⟩ := h
    exact is.length
  case r =>
    refine body_R h fun ds hp hl => ?_
    obtain ⟨ns, k, rfl, h0, h1⟩ := hp
    walk_at "body"
    walk_at "ev"
    by_cases hk : k < ns.length
    rw [if_pos (decide_eq_true hk)]
    walk_at "ev"
    refine v_ixS h0 (List.getElem?_eq_getElem (by omega)) ?_
    generalize ns[k.toNat] = c
    rotate_left
    rw [if_neg (by rw [decide_eq_false hk]; exact Bool.false_ne_true)]
    walk_at "ev"
    generalize 7 * k + 3 = c
    all_goals
      walk_at "ev"
      rw [show (((10 : Int) ^ (60 : Int).toNat) ^ (10 : Int).toNat) = 10 ^ 600 by decide +kernel]
      refine v_I ?_ ?_
      · exact hand_mul _ _
      · walk_at "ev"
        exact hand_is _ _ _ _

theorem ok__law_take {f : Addr} {fd : FuncData} (F : Fun K "_law_take" "_law_take" s__law_take f fd)
 :
    FnOk P w K mg base CX0 1 f fd ["_law_hand_here", "_law_many"] (SpH K preTake psiTake) := by
  refine F.ok sc__law_take (fun vs H Q E h => ?len) (fun cdv A outer s H vs Q E hr h => ⟨_, (pss_cons (ps_if (pt_cmpR op_gt (pe_ix (show IxR _ (rIxL K) from ix_list) (pv 0) pe_int (fun _ _ => rfl)) pe_int (nomark _)) (pss_cons (ps_set (i := 4) sc__law_take.nd rfl (by first | exact Or.inl rfl | exact Or.inr rfl) (pe_op op_mod (pe_ix (show IxR _ (rIxL K) from ix_list) (pv 0) pe_int (fun _ _ => rfl)) (pv 1)))
      (pss_cons (ps_asg (pe_op op_fdivW (pe_ix (show IxR _ (rIxL K) from ix_list) (pv 0) pe_int (fun _ _ => rfl)) (pv 1)) (pg_sub (pv 0) pe_int set_list))
      (pss_one (ps_ret (pv 4))))) pss_nil)
      (pss_cons (ps_asg (pe_op op_add (pe_ix (show IxR _ (rIxL K) from ix_list) (pv 0) pe_int (fun _ _ => rfl)) pe_int) (pg_sub (pv 0) pe_int set_list))
      (pss_cons (ps_set (i := 2) sc__law_take.nd rfl (by first | exact Or.inl rfl | exact Or.inr rfl) (pe_ix (show IxR _ (rIxL K) from ix_list) (pe_lst (pa_cons pe_int (pa_cons pe_int (pa_cons pe_int (pa_cons pe_int (pa_cons pe_int (pa_cons pe_int (pa_cons pe_int pa_nil)))))))) (pe_op op_mod (pe_ix (show IxR _ (rIxL K) from ix_list) (pv 0) pe_int (fun _ _ => rfl)) pe_int) (fun _ _ => rfl)))
      (pss_cons (ps_set (i := 3) sc__law_take.nd rfl (by first | exact Or.inl rfl | exact Or.inr rfl) (pe_op op_mod (pe_op op_pow (pe_op op_add (pe_op op_add (pe_ix (show IxR _ (rIxL K) from ix_list) (pv 0) pe_int (fun _ _ => rfl)) (pe_op op_mul (pe_op op_mul pe_int (pe_ix (show IxR _ (rIxL K) from ix_list) (pv 0) pe_int (fun _ _ => rfl))) (pe_ix (show IxR _ (rIxL K) from ix_list) (pv 0) pe_int (fun _ _ => rfl)))) pe_int) pe_int) (pv 2)))
      (pss_one (ps_ret (pe_op op_mod (pe_op op_fdiv (pe_op op_mod (pe_op op_mul (pv 3) (pe_op op_add (pe_op op_mod (pv 3) pe_int) (pe_op op_mul pe_int (pe_ix (show IxR _ (rIxL K) from ix_list) (pv 0) pe_int (fun _ _ => rfl))))) pe_int) pe_int) (pv 1)))))))), ?r⟩)
  case len =>
    obtain ⟨l, ws, B, ds, m, rfl, _, _, _, is, ⟨_, n, rfl, _⟩, _⟩ := h
    show ws.length + 1 = 2
    rw [is.length]; rfl
  case r =>
    refine body_H h fun a ds m hp hl => ?_
    obtain ⟨hm, n, rfl, hn, hn2⟩ := hp
    have hmod : ∀ x : Int, 0 ≤ x % n ∧ x % n < n := fun x =>
      ⟨Int.emod_nonneg x (by omega), Int.emod_lt_of_pos x hn⟩
    walk_at "body"
    walk_at "ev"
    rename_i g g1 g2
    cases decide (0 < g) with
    | true =>
      show SvC _ _ _ _ _ _ _
      walk_at "ev"
      refine s_hand0 rfl ?_
      walk_at "ev"
      rename_i g' g1' g2' g3 g4 g5
      refine v_I ?_ ?_
      · exact wide_div (b := 1100) hn (takeB_nat hn hn2) (by decide) (by decide)
      · have d1 := Int.ediv_nonneg g4 (Int.le_of_lt hn)
        have d2 := Int.ediv_le_self n g4
        refine ⟨_, rfl, d1, by omega, ?_⟩
        exact s_ret (e_var rfl ⟨by omega, n, _, rfl, rfl, hmod g'⟩)
    | false =>
      refine s_next ?_
      walk_at "ev"
      refine s_hand2 rfl ?_
      walk_at "ev"
      rename_i c c1 c2
      refine ⟨_, m + 1, rfl, by omega, by omega, ?_⟩
      walk_at "ev"
      rename_i c3 d1 d2
      obtain ⟨p, hp1, hp2, hp3⟩ := primes_at (Int.emod_nonneg c3 (by decide)) (Int.emod_lt_of_pos c3 (by decide))
      refine v_ixL (Int.emod_nonneg c3 (by decide)) hp1 ?_
      walk_at "ev"
      rename_i sd s1 s2 c4 x1 x2 c5 y1 y2
      refine v_I (.inr ⟨by omega, by omega⟩) ?_
      walk_at "ev"
      refine v_I ?_ ?_
      · exact ⟨by decide, by decide, take_base s1 s2 x1 (by omega) y1 (by omega)⟩
      walk_at "ev"
      have b1 := Int.emod_nonneg ((sd + 7919 * c4 * c5 + 31) ^ (3 : Int).toNat) (show p ≠ 0 by omega)
      have b2 := Int.emod_lt_of_pos ((sd + 7919 * c4 * c5 + 31) ^ (3 : Int).toNat) hp2
      generalize (sd + 7919 * c4 * c5 + 31) ^ (3 : Int).toNat % p = dr at b1 b2 ⊢
      walk_at "ev"
      refine v_I (.inl ⟨by omega, by omega⟩) ?_
      walk_at "ev"
      exact ⟨Nat.le_refl _, n, _, rfl, rfl, hmod _⟩

theorem ok__law_size {f : Addr} {fd : FuncData} (F : Fun K "_law_size" "_law_size" s__law_size f fd)
 :
    FnOk P w K mg base CX0 1 f fd ["_law_scale_here"] (SpP K preProd fProd) := by
  refine F.ok sc__law_size (fun vs H Q E h => ?len) (fun cdv A outer s H vs Q E hr h => ⟨_, (pss_cons (ps_set (i := 1) sc__law_size.nd rfl (by first | exact Or.inl rfl | exact Or.inr rfl) pe_int)
      (pss_cons (ps_for PassesOwn.never rfl (pi_tup (pv 0)) (pg_name (i := 2) sc__law_size.nd rfl (by first | exact Or.inl rfl | exact Or.inr rfl)) (pss_one (ps_set (i := 1) sc__law_size.nd rfl (by first | exact Or.inl rfl | exact Or.inr rfl) (pe_op op_mul (pv 1) (pv 2)))))
      (pss_one (ps_ret (pv 1))))), ?r⟩)
  case len =>
    obtain ⟨B, ds, _, is, ⟨ns, rfl, _⟩, _⟩ := h
    exact is.length
  case r =>
    refine body_P h fun ds hp hl => ?_
    obtain ⟨ns, rfl, hn⟩ := hp
    refine s_seq (s_asg (e_int ?_))
    refine s_seq (s_forT (e_var rfl ⟨_, rfl, fun i _ ρ' => ∃ x, ρ' = [some (.dat (.tup (dints ns))), some (.dat (.int (D.prod (dints (ns.take i))))), x], ⟨_, rfl⟩, ?_, ?_⟩))
    · intro i n ρ' d hd hI
      obtain ⟨x, rfl⟩ := hI
      have hi : i < ns.length := by
        have := (List.getElem?_eq_some_iff.mp hd).1
        simpa [dints] using this
      have ed : d = .int ns[i] := by
        rw [dints, List.getElem?_map, List.getElem?_eq_getElem hi] at hd
        exact (Option.some.inj hd).symm
      subst ed
      have hb := hn ns[i] (List.getElem_mem hi)
      refine s_aug rfl (e_var rfl (v_I (.inr ⟨by omega, by omega⟩) ?_))
      refine ⟨some (.dat (.int ns[i])), ?_⟩
      rw [prod_take hi]
      rfl
    · intro n ρ' hI
      obtain ⟨x, rfl⟩ := hI
      have e : ns.take (dints ns).length = ns := by
        rw [dints, List.length_map, List.take_length]
      rw [e]
      exact s_ret (e_var rfl rfl)

theorem gv__law_asked {f : Addr} {fd : FuncData} (F : Fun K "_law_asked" "_law_asked" s__law_asked f fd)
    (x_NoMeasure : We.Ex P K mg cNoMeasure "thing")
    (g_NoFrame : mg "NoFrame" = some (.ref cNoFrame))
    (g_NoHue : mg "NoHue" = some (.ref cNoHue))
    (g_NoMeasure : mg "NoMeasure" = some (.ref cNoMeasure))
    (g_NoNumber : mg "NoNumber" = some (.ref cNoNumber))
    (g_NoTimes : mg "NoTimes" = some (.ref cNoTimes))
    (g_TooMany : mg "TooMany" = some (.ref cTooMany))
    (g_TurnError : mg "TurnError" = some (.ref cTurnError))
    (ex_NoMeasure : PySem.W.exmOne K (.ref cNoMeasure) (.ref cTurnError) = some true)
    (kk_NoMeasure_NoFrame_NoHue_NoNumber_NoTimes_TooMany : PySem.W.kitAny K (.ref cNoMeasure) [.ref cNoFrame, .ref cNoHue, .ref cNoNumber, .ref cNoTimes, .ref cTooMany] = some false)
    (kk_NoMeasure_NoMeasure : PySem.W.kitOne K (.ref cNoMeasure) (.ref cNoMeasure) = some true)
    (m_isinstance : mg "isinstance" = none) :
    GivesX P w K mg base 1 "_law_asked" s__law_asked f ["_law_ask", "e", "_law_told", "_law_caught"] "_law_ask" (SpL K (preAk51 cNoMeasure) (resAk51 cNoMeasure)) := by
  intro cdv A outer s H Q fl cob q tl hG hr act hc h
  refine ⟨_, (pss_cons (ps_asg (pe_tupC (pa_cons pe_non (pa_cons pe_non pa_nil))) (pg_tup rfl (pgs_cons (pg_name (i := 2) sc__law_asked.nd rfl (by first | exact Or.inl rfl | exact Or.inr rfl)) (pgs_cons (pg_name (i := 3) sc__law_asked.nd rfl (by first | exact Or.inl rfl | exact Or.inr rfl)) pgs_nil))))
      (pss_cons (ps_tryK (i := 1) rfl rfl rfl sc__law_asked.nd rfl rfl ⟨by rfl, by decide, .inl g_TurnError⟩ takes_no (fun W pn xe tk po => (pss_one (ps_set (i := 2) sc__law_asked.nd rfl (by first | exact Or.inl rfl | exact Or.inr rfl) (act W pn xe _ _ tk)))) (fun a pn => (pss_one (ps_set (i := 3) sc__law_asked.nd rfl (by first | exact Or.inl rfl | exact Or.inr rfl) (pv 1)))))
      (pss_cons (ps_if (pt_cmpR op_isN1 (pv 3) pe_non (nomark _)) (pss_one (ps_ret (pv 2))) pss_nil)
      (pss_cons (ps_if (PW.pt (pw_or (pt_not (pt_val (pe_callB (show CallR _ _ (rIsX K) from call_isX) (by rfl) m_isinstance (by decide +kernel) (pa_cons (pv 3) (pa_cons (pe_glob (v := .ref cNoMeasure) (by rfl) g_NoMeasure rfl) pa_nil))))) (pw_or1 (pt_val (pe_callB (show CallR _ _ (rIsXT K) from call_isXT) (by rfl) m_isinstance (by decide +kernel) (pa_cons (pv 3) (pa_cons (pe_tup (pa_cons (pe_glob (v := .ref cNoFrame) (by rfl) g_NoFrame rfl) (pa_cons (pe_glob (v := .ref cNoHue) (by rfl) g_NoHue rfl) (pa_cons (pe_glob (v := .ref cNoNumber) (by rfl) g_NoNumber rfl) (pa_cons (pe_glob (v := .ref cNoTimes) (by rfl) g_NoTimes rfl) (pa_cons (pe_glob (v := .ref cTooMany) (by rfl) g_TooMany rfl) pa_nil)))))) pa_nil))))))) (pss_one (ps_ret pe_str)) pss_nil)
      (pss_one (ps_ret (pe_lst (pa_cons pe_str (pa_cons (pe_xfH (K := K) rfl (pv 3)) pa_nil))))))))), ?r⟩
  case r =>
    dsimp only [L2.cxOf, L2.Cx.nox, L2.Cx.wish]
    refine run_ask2 rfl hc h (fun R hp d hd => ?_) fun R hp C f d hd => ?_
    · walk_at "ev"
      exact ⟨_, hd, .inl rfl⟩
    · rcases hp _ hd with ⟨x, e⟩ | ⟨x, e⟩
      · cases e
      obtain ⟨rfl, rfl, rfl⟩ := Out.exc.inj e
      refine ⟨ex_NoMeasure, ?_⟩
      refine s_seq (s_if (t_test (e_isNo (by with_unfolding_all rfl) ?_)))
      refine ⟨_, rfl, ?_⟩
      rw [if_neg Bool.false_ne_true]
      refine s_next ?_
      walk_at "xv"
      exact ⟨_, hd, .inr ⟨_, rfl, rfl⟩⟩

theorem ok__law_lessened {f : Addr} {fd : FuncData} (F : Fun K "_law_lessened" "_law_lessened" s__law_lessened f fd)
    (m_tuple : mg "tuple" = none)
    (m_zip : mg "zip" = none) :
    FnOk P w K mg base CX0 1 f fd ["_law_item", "_law_part"] (SpP K preLs51 fLs82) := by
  refine F.ok sc__law_lessened (fun vs H Q E h => ?len) (fun cdv A outer s H vs Q E hr h => ⟨_, (pss_one (ps_ret (pe_callTy (show CallR _ _ (rTupC K) from call_tupC) (by rfl) m_tuple (by decide +kernel) (pa_cons (pe_lc (own := [("_law_number", 2), ("_law_size_here", 3)]) (g := gTup K 2 (gCons (gName 2) (gCons (gName 3) gNil))) (tt := tYes) rfl sc__law_lessened.nd (RZ.pi_zipA (by rfl) m_zip (pa_cons (pv 1) (pa_cons (pv 0) pa_nil))) (blkOk_by (own := [("_law_number", 2), ("_law_size_here", 3)]) (N := ["_law_item", "_law_part", "_law_number", "_law_size_here"]) (sc := defScope s__law_lessened) (by decide +kernel)) (fun _ _ _ _ _ => (pg_tup rfl (pgs_cons (pg_name (i := 2) sc__law_lessened.nd rfl (by first | exact Or.inl rfl | exact Or.inr rfl)) (pgs_cons (pg_name (i := 3) sc__law_lessened.nd rfl (by first | exact Or.inl rfl | exact Or.inr rfl)) pgs_nil)))) (fun _ _ _ _ _ => pts_nil) (fun _ _ _ _ _ => (pe_op op_mod (pv 2) (pv 3)))) pa_nil)))), ?r⟩)
  case len =>
    obtain ⟨B, ds, _, is, ⟨is', x, rfl, _⟩, _⟩ := h
    exact is.length
  case r =>
    refine body_P h fun ds hp hl => ?_
    obtain ⟨is, x, rfl, hI, hx, hb⟩ := hp
    rw [fLs82_is]
    have h3 := hI.2.1
    walk_at "body"
    refine s_ret (e_cb (a_cons (e_lcZi (f := fun x m => x % m) rfl rfl (by decide) ?_)))
    walk_at "ev"
    refine ⟨by omega, ?_, ?_⟩
    · intro c x z e1 e3
      have hz : 0 < z := by have := hI.2.2 z (List.mem_of_getElem? e3); omega
      walk_at "ev"
      rfl
    · walk_at "ev"
      rfl

theorem ok_is_within {f : Addr} {fd : FuncData} (F : Fun K "is_within" "is_within" s_is_within f fd)
    {f_is_whole : Addr} {fd_is_whole : FuncData} (F_is_whole : Fun K "is_whole" "is_whole" s_is_whole f_is_whole fd_is_whole)
    (G_is_whole : FnOk P w K mg base CX0 1 f_is_whole fd_is_whole ["thing"] (SpP K preWhole fWhole))
    (g_is_whole : mg "is_whole" = some (.ref f_is_whole)) :
    FnOk P w K mg base CX0 2 f fd ["thing", "least", "most"] (SpP K preWithin fWithin) := by
  refine F.ok sc_is_within (fun vs H Q E h => ?len) (fun cdv A outer s H vs Q E hr h => ⟨_, (pss_one (ps_ret (pe_and (pe_call G_is_whole (hr.mono (by decide)) (by rfl) g_is_whole F_is_whole.kp (bi_is_whole F_is_whole) .nil pass0 (pa_cons (pv 0) pa_nil)) (pe_one (pe_chain op_le op_le (pv 1) (pv 0) (pv 2)))))), ?r⟩)
  case len =>
    obtain ⟨B, ds, _, is, ⟨d, a, b, rfl, _⟩, _⟩ := h
    exact is.length
  case r =>
    refine body_P h fun ds hp hl => ?_
    obtain ⟨d, a, b, rfl, ho⟩ := hp
    refine s_ret (e_andV (e_callP (a_cons (e_var rfl (a_nil ⟨⟨d, rfl, ho⟩, _, rfl, ?_⟩)))))
    clear hl
    cases d <;> first | (cases ho; done) | (exact rfl) | skip
    rename_i i
    refine e_chain (e_var rfl (e_var rfl ⟨_, _, rfl, rfl, ?_⟩))
    show if decide (a ≤ i) = true then _ else _
    cases e : decide (a ≤ i) with
    | false => show D.bl false = .bl (decide (a ≤ i) && decide (i ≤ b)); rw [e]; rfl
    | true =>
      refine e_var rfl ⟨_, rfl, ?_⟩
      show D.bl (decide (i ≤ b)) = .bl (decide (a ≤ i) && decide (i ≤ b))
      rw [e]; rfl

theorem ok__law_of {f : Addr} {fd : FuncData} (F : Fun K "_law_of" "_law_of" s__law_of f fd)
    {f__law_take : Addr} {fd__law_take : FuncData} (F__law_take : Fun K "_law_take" "_law_take" s__law_take f__law_take fd__law_take)
    (G__law_take : FnOk P w K mg base CX0 1 f__law_take fd__law_take ["_law_hand_here", "_law_many"] (SpH K preTake psiTake))
    (g__law_take : mg "_law_take" = some (.ref f__law_take))
    (m_len : mg "len" = none) :
    FnOk P w K mg base CX0 2 f fd ["_law_hand_here", "_law_some"] (SpH K preOf psiOf) := by
  refine F.ok sc__law_of (fun vs H Q E h => ?len) (fun cdv A outer s H vs Q E hr h => ⟨_, (pss_one (ps_ret (pe_ix (show IxR _ (rIx K) from ix_seq) (pv 1) (pe_call G__law_take (hr.mono (by decide)) (by rfl) g__law_take F__law_take.kp (bi__law_take F__law_take) .nil pass0 (pa_cons (pv 0) (pa_cons (pe_callB (show CallR _ _ (rLenQ K) from call_len_seq) (by rfl) m_len (by decide +kernel) (pa_cons (pv 1) pa_nil)) pa_nil))) (fun _ _ => rfl)))), ?r⟩)
  case len =>
    obtain ⟨l, ws, B, ds, m, rfl, _, _, _, is, ⟨_, c, xs, rfl, _⟩, _⟩ := h
    show ws.length + 1 = 2
    rw [is.length]; rfl
  case r =>
    refine body_H h fun a ds m hp hl => ?_
    obtain ⟨hm, c, xs, rfl, hc, hne, hsz⟩ := hp
    refine s_ret (e_op (e_var rfl (e_callH rfl (a_cons (e_cb (a_cons (e_var rfl (a_nil (v_lenA hc (a_nil ⟨⟨hm, _, rfl, ?_, takeB_of (by omega)⟩, ?_⟩))))))))))
    · have : xs.length ≠ 0 := fun z => hne (List.eq_nil_of_length_eq_zero z)
      omega
    · intro m2 d ht
      obtain ⟨h1, n, r, e1, rfl, h2, h3⟩ := ht
      cases e1
      have hr2 : r.toNat < xs.length := by omega
      exact v_ixA hc h2 (List.getElem?_eq_getElem hr2) ⟨h1, c, xs, rfl, hc, List.getElem_mem hr2⟩

theorem ok__law_mixed {f : Addr} {fd : FuncData} (F : Fun K "_law_mixed" "_law_mixed" s__law_mixed f fd)
    {f__law_take : Addr} {fd__law_take : FuncData} (F__law_take : Fun K "_law_take" "_law_take" s__law_take f__law_take fd__law_take)
    (G__law_take : FnOk P w K mg base CX0 1 f__law_take fd__law_take ["_law_hand_here", "_law_many"] (SpH K preTake psiTake))
    (g__law_take : mg "_law_take" = some (.ref f__law_take))
    (m_len : mg "len" = none)
    (m_list : mg "list" = none) :
    FnOk P w K mg base CX0 2 f fd ["_law_hand_here", "_law_some"] (SpF K preMix psiMix) := by
  refine F.ok sc__law_mixed (fun vs H Q E h => ?len) (fun cdv A outer s H vs Q E hr h => ⟨_, (pss_cons (ps_par (i := 2) (j := 3) rfl sc__law_mixed.nd rfl rfl (by decide) rfl rfl (pa_cons (pe_callTy (show CallR _ _ (rListQ K) from call_list_of) (by rfl) m_list (by decide +kernel) (pa_cons (pv 1) pa_nil)) (pa_cons (pe_lst pa_nil) pa_nil)) (by rfl))
      (pss_cons (ps_while PassesOwn.never (pt_cmpR (show OpR _ _ (rNeD K) from op_neD hr.units) (pv 2) (pe_lst pa_nil) (nomark _)) (pss_one (ps_expr (pe_bm PySem.F.plainAttrs_list PySem.F.slot_list_append PySem.F.type_list_append mt_append (pv 3) (pa_cons (pe_bm PySem.F.plainAttrs_list PySem.F.slot_list_pop PySem.F.type_list_pop mt_popAt (pv 2) (pa_cons (pe_call G__law_take (hr.mono (by decide)) (by rfl) g__law_take F__law_take.kp (bi__law_take F__law_take) .nil pass0 (pa_cons (pv 0) (pa_cons (pe_callB (show CallR _ _ (rLenQ K) from call_len_seq) (by rfl) m_len (by decide +kernel) (pa_cons (pv 2) pa_nil)) pa_nil))) pa_nil)) pa_nil)))))
      (pss_one (ps_ret (pv 3))))), ?r⟩)
  case len =>
    obtain ⟨a, ws, B, ds, m, rfl, _, _, _, is, ⟨_, c, xs, rfl, _⟩, _⟩ := h
    show ws.length + 1 = 2
    rw [is.length]; rfl
  case r =>
    refine body_F2 (j := 3) h fun ad ds m hp hl => ?_
    obtain ⟨hm, c, xs, rfl, hc, hx, hN⟩ := hp
    walk_at "body"
    refine s_seq (s_parOwn2 (by decide) ?_)
    walk_at "ev"
    refine ⟨xs, hc, ?_⟩
    walk_at "ro"
    refine s_while (q0 := xs.length) (I := fun q n ρ' => ∃ left found : List D, ρ' = [some .hand, some (.dat c), some (.own left), some (.own found)] ∧ (found ++ left).Perm xs ∧ left.length = q ∧ n + q ≤ m + xs.length) ⟨xs, [], rfl, .refl _, rfl, by omega⟩ ?_
    intro q n ρ' hI
    obtain ⟨left, found, rfl, hP, hq, hn⟩ := hI
    have hle : found.length + left.length = xs.length := by
      have := hP.length_eq
      simpa using this
    obtain ⟨wd, hwd, hN2⟩ : ∃ wd, wd ≤ 101000 ∧ Num 21 wd (.lst left) := by
      by_cases hs : xs.length ≤ 30
      · exact ⟨3001 * left.length, by omega, Num.lst (k := 20) (w := 3000) fun x hx => (hN x (hP.mem_iff.mp (List.mem_append_right _ hx))).elim (fun z => z.up (by omega) (by omega)) (·.2)⟩
      · exact ⟨501 * left.length, by omega, Num.lst (k := 20) (w := 500) fun x hx => (hN x (hP.mem_iff.mp (List.mem_append_right _ hx))).elim id fun z => absurd z.1 hs⟩
    refine t_ownNe (i := 2) rfl hN2 (by omega) ?_
    cases left with
    | nil =>
      rw [List.isEmpty_nil, Bool.not_true, if_neg Bool.false_ne_true]
      refine ⟨found, rfl, by simp at hq; omega, c, xs, rfl, hc, ?_⟩
      rw [List.append_nil] at hP
      exact hP
    | cons y r =>
      rw [List.isEmpty_cons, Bool.not_false, if_pos rfl]
      simp only [List.length_cons] at hq hle
      refine s_popApp (i := 2) (j := 3) rfl rfl (by decide) (by omega) ?_
      refine e_callH rfl (a_cons (e_lenOwn (i := 2) rfl ?_))
      walk_at "ev"
      refine g_take (by omega) (by simp) (by simp; omega) fun m2 k q2 hk => ?_
      simp only [List.length_cons] at hk
      obtain ⟨z, hz⟩ : ∃ z, (y :: r)[k]? = some z := ⟨(y :: r)[k]'(by simp; omega), List.getElem?_eq_getElem _⟩
      refine ⟨_, rfl, k, rfl, by omega, z, hz, q - 1, by omega, _, _, rfl, ?_, ?_, by omega⟩
      · refine List.Perm.trans ?_ hP
        rw [List.append_assoc]
        exact List.Perm.append_left _ (erase_perm hz)
      · have := (erase_perm hz).length_eq
        simp only [List.length_cons] at this
        omega

theorem ok__law_knot {f : Addr} {fd : FuncData} (F : Fun K "_law_knot" "_law_knot" s__law_knot f fd)
    {f__law_take : Addr} {fd__law_take : FuncData} (F__law_take : Fun K "_law_take" "_law_take" s__law_take f__law_take fd__law_take)
    (G__law_take : FnOk P w K mg base CX0 1 f__law_take fd__law_take ["_law_hand_here", "_law_many"] (SpH K preTake psiTake))
    (g__law_take : mg "_law_take" = some (.ref f__law_take))
    (m_tuple : mg "tuple" = none) :
    FnOk P w K mg base CX0 2 f fd ["_law_hand_here", "_law_scale_here"] (SpH K preKn psiKn) := by
  refine F.ok sc__law_knot (fun vs H Q E h => ?len) (fun cdv A outer s H vs Q E hr h => ⟨_, (pss_one (ps_ret (pe_callTy (show CallR _ _ (rTupC K) from call_tupC) (by rfl) m_tuple (by decide +kernel) (pa_cons (pe_lc (own := [("_law_size_here", 2)]) (g := gName 2) (tt := tYes) rfl sc__law_knot.nd (pi_tup (pv 1)) (blkOk_by (own := [("_law_size_here", 2)]) (N := ["_law_hand_here", "_law_scale_here", "_law_size_here"]) (sc := defScope s__law_knot) (by decide +kernel)) (fun _ _ _ _ _ => (pg_name (i := 2) sc__law_knot.nd rfl (by first | exact Or.inl rfl | exact Or.inr rfl))) (fun _ _ _ _ _ => pts_nil) (fun _ _ _ _ _ => (pe_call G__law_take (hr.mono (by decide)) (by rfl) g__law_take F__law_take.kp (bi__law_take F__law_take) .nil pass0 (pa_cons (pv 0) (pa_cons (pv 2) pa_nil))))) pa_nil)))), ?r⟩)
  case len =>
    obtain ⟨l, ws, B, ds, m, rfl, _, _, _, is, ⟨_, ms, rfl, _⟩, _⟩ := h
    show ws.length + 1 = 2
    rw [is.length]; rfl
  case r =>
    refine body_H h fun a ds m hp hl => ?_
    obtain ⟨hm, ms, rfl, hM⟩ := hp
    have h3 := hM.2.1
    walk_at "body"
    refine s_ret (e_cb (a_cons (e_lcT rfl (e_var rfl ⟨_, rfl, by rw [dints_length]; omega, fun i n acc => n ≤ m + i ∧ ∃ t : List Int, acc = dints t ∧ t.length = i ∧ ∀ (c : Nat) (z x : Int), ms[c]? = some z → t[c]? = some x → 0 ≤ x ∧ x < z, ⟨by omega, [], rfl, rfl, fun c z x _ e => by simp at e⟩, ?_, ?_⟩))))
    · intro i n acc d hd hI hal
      obtain ⟨hn, t, rfl, ht, hb⟩ := hI
      obtain ⟨z, ez, rfl⟩ := dints_get hd
      have hz := hM.2.2 z (List.mem_of_getElem? ez)
      have hi : i < ms.length := (List.getElem?_eq_some_iff.mp ez).1
      walk_at "ev"
      refine ⟨⟨by omega, z, rfl, by omega, takeB_of (by omega)⟩, fun m2 d2 q => ?_⟩
      obtain ⟨q1, n', r, e, rfl, q2, q3⟩ := q
      cases e
      refine ⟨by omega, t ++ [r], by rw [dints_snoc], by simp [ht], fun c z' x e1 e2 => ?_⟩
      by_cases hc : c < t.length
      · rw [List.getElem?_append_left hc] at e2
        exact hb c z' x e1 e2
      · have hc2 : c = t.length := by
          have := (List.getElem?_eq_some_iff.mp e2).1
          simp at this
          omega
        subst hc2
        rw [List.getElem?_append_right (Nat.le_refl _)] at e2
        simp at e2
        subst e2
        rw [ht, ez] at e1
        cases e1
        exact ⟨q2, q3⟩
    · intro n acc _ hI
      obtain ⟨hn, t, rfl, ht, hb⟩ := hI
      rw [dints_length] at hn ht
      walk_at "ev"
      exact ⟨by omega, ms, t, rfl, ⟨ht, hb⟩, rfl⟩

theorem ok__law_is_scale {f : Addr} {fd : FuncData} (F : Fun K "_law_is_scale" "_law_is_scale" s__law_is_scale f fd)
    {f__law_size : Addr} {fd__law_size : FuncData} (F__law_size : Fun K "_law_size" "_law_size" s__law_size f__law_size fd__law_size)
    (G__law_size : FnOk P w K mg base CX0 1 f__law_size fd__law_size ["_law_scale_here"] (SpP K preProd fProd))
    (g__law_size : mg "_law_size" = some (.ref f__law_size))
    (m_bool : mg "bool" = none)
    (m_int : mg "int" = none)
    (m_isinstance : mg "isinstance" = none)
    (m_len : mg "len" = none)
    (m_tuple : mg "tuple" = none) :
    FnOk P w K mg base CX0 2 f fd ["_law_item"] (SpP K preMeas fMeas) := by
  refine F.ok sc__law_is_scale (fun vs H Q E h => ?len) (fun cdv A outer s H vs Q E hr h => ⟨_, (pss_cons (ps_if (PW.pt (pw_or (pt_not (pt_val (pe_callB (show CallR _ _ (rIsi K) from call_isi) (by rfl) m_isinstance (by decide +kernel) (pa_cons (pv 0) (pa_cons (pe_bltn (v := .ty "tuple") (by rfl) m_tuple (by decide +kernel) rfl) pa_nil))))) (pw_or1 (pt_not (pt_chain op_lt op_lt pe_int (pe_callB (show CallR _ _ (rLenQ K) from call_len_seq) (by rfl) m_len (by decide +kernel) (pa_cons (pv 0) pa_nil)) pe_int))))) (pss_one (ps_ret pe_bl)) pss_nil)
      (pss_cons (ps_for PassesOwn.never rfl (pi_tup (pv 0)) (pg_name (i := 1) sc__law_is_scale.nd rfl (by first | exact Or.inl rfl | exact Or.inr rfl)) (pss_one (ps_if (PW.pt (pw_or (pt_not (pt_val (pe_callB (show CallR _ _ (rIsi K) from call_isi) (by rfl) m_isinstance (by decide +kernel) (pa_cons (pv 1) (pa_cons (pe_bltn (v := .ty "int") (by rfl) m_int (by decide +kernel) rfl) pa_nil))))) (pw_or (pt_val (pe_callB (show CallR _ _ (rIsi K) from call_isi) (by rfl) m_isinstance (by decide +kernel) (pa_cons (pv 1) (pa_cons (pe_bltn (v := .ty "bool") (by rfl) m_bool (by decide +kernel) rfl) pa_nil)))) (pw_or1 (pt_not (pt_chain op_lt op_lt pe_int (pv 1) pe_int)))))) (pss_one (ps_ret pe_bl)) pss_nil)))
      (pss_one (ps_ret (pe_cmpR op_lt (pe_call G__law_size (hr.mono (by decide)) (by rfl) g__law_size F__law_size.kp (bi__law_size F__law_size) .nil pass0 (pa_cons (pv 0) pa_nil)) pe_int (nomark _)))))), ?r⟩)
  case len =>
    obtain ⟨B, ds, _, is, ⟨d, rfl, _⟩, _⟩ := h
    exact is.length
  case r =>
    refine body_P h fun ds hp hl => ?_
    obtain ⟨d, rfl, hpl⟩ := hp
    walk_at "body"
    walk_at "ev"
    refine ⟨plain_own hpl, _, rfl, ?_⟩
    cases d with
    | tup xs =>
      have hpx : ∀ x ∈ xs, x.own = false := fun x hx => plain_own (plains_mem (by simpa [D.plain] using hpl) hx)
      show if false = true then _ else _
      rw [if_neg Bool.false_ne_true]
      walk_at "ev"
      by_cases h0 : 0 < xs.length
      · rw [if_pos (decide_eq_true (show (0 : Int) < (xs.length : Int) by omega))]
        walk_at "ev"
        by_cases h4 : xs.length < 4
        · rw [decide_eq_true (show (xs.length : Int) < 4 by omega), Bool.not_true, if_neg Bool.false_ne_true]
          have e : (decide (1 ≤ xs.length) && decide (xs.length ≤ 3)) = true := by
            rw [Bool.and_eq_true, decide_eq_true_eq, decide_eq_true_eq]; omega
          refine s_next ?_
          refine s_seq (s_forT (e_var rfl ⟨_, rfl, fun i n ρ' => n = 0 ∧ (xs.take i).all (D.within 2 5) = true ∧ ∃ x, ρ' = [some (.dat (.tup xs)), x], ⟨rfl, rfl, _, rfl⟩, ?_, ?_⟩))
          · intro i n ρ' d hd hI
            obtain ⟨rfl, ha, x, rfl⟩ := hI
            have hod := hpx d (List.mem_of_getElem? hd)
            have stop : D.within 2 5 d = false → D.bl false = .bl (D.meas (.tup xs)) := by
              intro hw
              have : xs.all (D.within 2 5) = false := by
                rw [List.all_eq_false]
                exact ⟨d, List.mem_of_getElem? hd, by rw [hw]; exact Bool.false_ne_true⟩
              rw [D.meas, this, e]; rfl
            have go : D.within 2 5 d = true → (xs.take (i + 1)).all (D.within 2 5) = true := by
              intro hw
              rw [List.take_add_one, hd, List.all_append, ha]
              show (true && [d].all (D.within 2 5)) = true
              rw [List.all_cons, hw]; rfl
            walk_at "ev"
            refine ⟨hod, _, rfl, ?_⟩
            cases d with
            | int j =>
              show if false = true then _ else _
              rw [if_neg Bool.false_ne_true]
              walk_at "ev"
              show if false = true then _ else _
              rw [if_neg Bool.false_ne_true]
              walk_at "ev"
              by_cases h1 : 1 < j
              · rw [if_pos (decide_eq_true h1)]
                walk_at "ev"
                by_cases h6 : j < 6
                · rw [decide_eq_true h6, Bool.not_true, if_neg Bool.false_ne_true]
                  walk_at "ev"
                  refine ⟨go ?_, _, rfl⟩
                  rw [D.within, Bool.and_eq_true, decide_eq_true_eq, decide_eq_true_eq]
                  omega
                · rw [decide_eq_false h6, Bool.not_false, if_pos rfl]
                  walk_at "ev"
                  refine stop ?_
                  rw [D.within, Bool.and_eq_false_iff, decide_eq_false_iff_not, decide_eq_false_iff_not]
                  omega
              · rw [if_neg (show ¬ decide (1 < j) = true by rw [decide_eq_true_eq]; exact h1)]
                refine ⟨_, rfl, ?_⟩
                rw [Bool.not_false, if_pos rfl]
                walk_at "ev"
                refine stop ?_
                rw [D.within, Bool.and_eq_false_iff, decide_eq_false_iff_not, decide_eq_false_iff_not]
                omega
            | bl b =>
              show if false = true then _ else _
              rw [if_neg Bool.false_ne_true]
              walk_at "ev"
              show if true = true then _ else _
              rw [if_pos rfl]
              walk_at "ev"
              exact stop rfl
            | _ =>
              show if true = true then _ else _
              rw [if_pos rfl]
              walk_at "ev"
              exact stop rfl
          · intro n ρ' hI
            obtain ⟨rfl, ha, x, rfl⟩ := hI
            rw [List.take_length] at ha
            walk_at "ev"
            refine ⟨prod_pre ha, ?_⟩
            refine e_int (v_B0 ?_)
            show D.bl (decide (D.prod xs < 31)) = .bl (D.meas (.tup xs))
            rw [D.meas, ha, e]
            show D.bl _ = D.bl (decide (D.prod xs ≤ 30))
            congr 1
            simp only [decide_eq_decide]; omega
        · rw [decide_eq_false (show ¬ (xs.length : Int) < 4 by omega), Bool.not_false, if_pos rfl]
          walk_at "ev"
          have e : (decide (1 ≤ xs.length) && decide (xs.length ≤ 3)) = false := by
            rw [Bool.and_eq_false_iff, decide_eq_false_iff_not, decide_eq_false_iff_not]; omega
          show D.bl false = .bl (D.meas (.tup xs))
          rw [D.meas, e]; rfl
      · rw [if_neg (show ¬ decide ((0 : Int) < (xs.length : Int)) = true by rw [decide_eq_true_eq]; omega)]
        refine ⟨_, rfl, ?_⟩
        rw [Bool.not_false, if_pos rfl]
        walk_at "ev"
        have e : (decide (1 ≤ xs.length) && decide (xs.length ≤ 3)) = false := by
          rw [Bool.and_eq_false_iff, decide_eq_false_iff_not, decide_eq_false_iff_not]; omega
        show D.bl false = .bl (D.meas (.tup xs))
        rw [D.meas, e]; rfl
    | _ =>
      show if true = true then _ else _
      rw [if_pos rfl]
      walk_at "ev"
      rfl

theorem ok_is_measure {f : Addr} {fd : FuncData} (F : Fun K "is_measure" "is_measure" s_is_measure f fd)
    {f_is_within : Addr} {fd_is_within : FuncData} (F_is_within : Fun K "is_within" "is_within" s_is_within f_is_within fd_is_within)
    (G_is_within : FnOk P w K mg base CX0 2 f_is_within fd_is_within ["thing", "least", "most"] (SpP K preWithin fWithin))
    (g_is_within : mg "is_within" = some (.ref f_is_within))
    {f_product : Addr} {fd_product : FuncData} (F_product : Fun K "product" "product" s_product f_product fd_product)
    (G_product : FnOk P w K mg base CX0 1 f_product fd_product ["numbers"] (SpP K preProd fProd))
    (g_product : mg "product" = some (.ref f_product))
    {t_LEAST_NUMBER : Tok} (c_LEAST_NUMBER : mg "LEAST_NUMBER" = some (.int 2 t_LEAST_NUMBER))
    {t_MOST_NUMBER : Tok} (c_MOST_NUMBER : mg "MOST_NUMBER" = some (.int 5 t_MOST_NUMBER))
    {t_MOST_NUMBERS : Tok} (c_MOST_NUMBERS : mg "MOST_NUMBERS" = some (.int 3 t_MOST_NUMBERS))
    {t_MOST_TIES : Tok} (c_MOST_TIES : mg "MOST_TIES" = some (.int 30 t_MOST_TIES))
    (m_all : mg "all" = none)
    (m_isinstance : mg "isinstance" = none)
    (m_len : mg "len" = none)
    (m_tuple : mg "tuple" = none) :
    FnOk P w K mg base CX0 3 f fd ["thing"] (SpP K preMeas fMeas) := by
  refine F.ok sc_is_measure (fun vs H Q E h => ?len) (fun cdv A outer s H vs Q E hr h => ⟨_, (pss_cons (ps_if (PW.pt (pw_or (pt_not (pt_val (pe_callB (show CallR _ _ (rIsi K) from call_isi) (by rfl) m_isinstance (by decide +kernel) (pa_cons (pv 0) (pa_cons (pe_bltn (v := .ty "tuple") (by rfl) m_tuple (by decide +kernel) rfl) pa_nil))))) (pw_or1 (pt_not (pt_val (pe_call G_is_within (hr.mono (by decide)) (by rfl) g_is_within F_is_within.kp (bi_is_within F_is_within) .nil pass0 (pa_cons (pe_callB (show CallR _ _ (rLenQ K) from call_len_seq) (by rfl) m_len (by decide +kernel) (pa_cons (pv 0) pa_nil)) (pa_cons pe_int (pa_cons (pe_glob (v := .int 3) (by rfl) c_MOST_NUMBERS ⟨_, rfl⟩) pa_nil))))))))) (pss_one (ps_ret pe_bl)) pss_nil)
      (pss_cons (ps_if (pt_not (pt_val (pe_callB (show CallR _ _ (rAll K) from cr_all rfl) (by rfl) m_all (by decide +kernel) (pa_cons (pe_lc (own := [("number", 1)]) (g := gName 1) (tt := tYes) rfl sc_is_measure.nd (pi_tup (pv 0)) (blkOk_by (own := [("number", 1)]) (N := ["thing", "number"]) (sc := defScope s_is_measure) (by decide +kernel)) (fun _ _ _ _ _ => (pg_name (i := 1) sc_is_measure.nd rfl (by first | exact Or.inl rfl | exact Or.inr rfl))) (fun _ _ _ _ _ => pts_nil) (fun _ _ _ _ _ => (pe_call G_is_within (hr.mono (by decide)) (by rfl) g_is_within F_is_within.kp (bi_is_within F_is_within) .nil pass0 (pa_cons (pv 1) (pa_cons (pe_glob (v := .int 2) (by rfl) c_LEAST_NUMBER ⟨_, rfl⟩) (pa_cons (pe_glob (v := .int 5) (by rfl) c_MOST_NUMBER ⟨_, rfl⟩) pa_nil)))))) pa_nil)))) (pss_one (ps_ret pe_bl)) pss_nil)
      (pss_one (ps_ret (pe_cmpR op_le (pe_call G_product (hr.mono (by decide)) (by rfl) g_product F_product.kp (bi_product F_product) .nil pass0 (pa_cons (pv 0) pa_nil)) (pe_glob (v := .int 30) (by rfl) c_MOST_TIES ⟨_, rfl⟩) (nomark _)))))), ?r⟩)
  case len =>
    obtain ⟨B, ds, _, is, ⟨d, rfl, _⟩, _⟩ := h
    exact is.length
  case r =>
    refine body_P h fun ds hp hl => ?_
    obtain ⟨d, rfl, hpl⟩ := hp
    have ho : d.own = false := plain_own hpl
    refine s_seq (s_if (t_or (t_not (t_B (e_isi kit_tup (e_var rfl ⟨ho, _, rfl, ?_⟩))))))
    cases d with
    | tup xs =>
      refine t_not (t_B (e_callP (a_cons (e_cb (a_cons (e_var rfl (a_nil (v_lenT (a_cons (e_int (a_cons (e_int (a_nil ⟨⟨_, _, _, rfl, rfl⟩, _, rfl, ?_⟩)))))))))))))
      cases e : D.within 1 3 (.int xs.length) with
      | false =>
        refine s_ret (e_bl ?_)
        show D.bl false = .bl (D.meas (.tup xs))
        rw [D.meas, show (decide (1 ≤ xs.length) && decide (xs.length ≤ 3)) = false from within_len e]
        rfl
      | true =>
        refine s_next ?_
        have e3 : (decide (1 ≤ xs.length) && decide (xs.length ≤ 3)) = true := within_len e
        have hlen : xs.length ≤ 3 := by
          rw [Bool.and_eq_true, decide_eq_true_eq, decide_eq_true_eq] at e3
          exact e3.2
        have hpx : ∀ x ∈ xs, x.own = false := fun x hx => plain_own (plains_mem (by simpa [D.plain] using hpl) hx)
        refine s_seq (s_if (t_not (t_B (e_cb (a_cons (e_lcT rfl (e_var rfl ⟨xs, rfl, by omega, fun i _ acc => acc = ((xs.take i).map (D.within 2 5)).map D.bl, rfl, ?_, ?_⟩)))))))
        · intro i n acc d hd hI _
          refine e_callP (a_cons (e_var rfl (a_cons (e_int (a_cons (e_int (a_nil ⟨⟨_, _, _, rfl, hpx d (List.mem_of_getElem? hd)⟩, ?_⟩)))))))
          subst hI
          rw [List.take_add_one, hd]
          simp [fWithin]
        · intro n acc _ hI
          subst hI
          rw [List.take_length]
          refine a_nil (v_all ⟨_, rfl, ?_⟩)
          have ea : ((xs.map (D.within 2 5)).all id) = xs.all (D.within 2 5) := by
            rw [List.all_map]; rfl
          rw [ea]
          cases e2 : xs.all (D.within 2 5) with
          | false =>
            refine s_ret (e_bl ?_)
            show D.bl false = .bl (D.meas (.tup xs))
            rw [D.meas, e2, e3]; rfl
          | true =>
            refine s_next (s_ret (e_op (e_callP (a_cons (e_var rfl (a_nil ⟨prod_pre e2, e_int (v_B0 ?_)⟩))))))
            show D.bl (decide (D.prod xs ≤ 30)) = .bl (D.meas (.tup xs))
            rw [D.meas, e2, e3]; rfl
    | _ => exact s_ret (e_bl rfl)

theorem ok_is_hue {f : Addr} {fd : FuncData} (F : Fun K "is_hue" "is_hue" s_is_hue f fd)
    {f_is_within : Addr} {fd_is_within : FuncData} (F_is_within : Fun K "is_within" "is_within" s_is_within f_is_within fd_is_within)
    (G_is_within : FnOk P w K mg base CX0 2 f_is_within fd_is_within ["thing", "least", "most"] (SpP K preWithin fWithin))
    (g_is_within : mg "is_within" = some (.ref f_is_within))
    {t_MOST_HUE : Tok} (c_MOST_HUE : mg "MOST_HUE" = some (.int 9 t_MOST_HUE)) :
    FnOk P w K mg base CX0 3 f fd ["thing"] (SpP K preWhole fHue) := by
  refine F.ok sc_is_hue (fun vs H Q E h => ?len) (fun cdv A outer s H vs Q E hr h => ⟨_, (pss_one (ps_ret (pe_call G_is_within (hr.mono (by decide)) (by rfl) g_is_within F_is_within.kp (bi_is_within F_is_within) .nil pass0 (pa_cons (pv 0) (pa_cons pe_int (pa_cons (pe_glob (v := .int 9) (by rfl) c_MOST_HUE ⟨_, rfl⟩) pa_nil)))))), ?r⟩)
  case len =>
    obtain ⟨B, ds, _, is, ⟨d, rfl, _⟩, _⟩ := h
    exact is.length
  case r =>
    refine body_P h fun ds hp hl => ?_
    obtain ⟨d, rfl, ho⟩ := hp
    walk_at "body"
    walk_at "ev"
    exact ⟨⟨_, _, _, rfl, ho⟩, rfl⟩

theorem ok__law_scale {f : Addr} {fd : FuncData} (F : Fun K "_law_scale" "_law_scale" s__law_scale f fd)
    {f__law_of : Addr} {fd__law_of : FuncData} (F__law_of : Fun K "_law_of" "_law_of" s__law_of f__law_of fd__law_of)
    (G__law_of : FnOk P w K mg base CX0 2 f__law_of fd__law_of ["_law_hand_here", "_law_some"] (SpH K preOf psiOf))
    (g__law_of : mg "_law_of" = some (.ref f__law_of)) :
    FnOk P w K mg base CX0 3 f fd ["_law_hand_here"] (SpH K preSc psiSc) := by
  refine F.ok sc__law_scale (fun vs H Q E h => ?len) (fun cdv A outer s H vs Q E hr h => ⟨_, (pss_cons (ps_set (i := 1) sc__law_scale.nd rfl (by first | exact Or.inl rfl | exact Or.inr rfl) (pe_lst (pa_cons (pe_tupC (pa_cons pe_int pa_nil)) (pa_cons (pe_tupC (pa_cons pe_int (pa_cons pe_int pa_nil))) (pa_cons (pe_tupC (pa_cons pe_int pa_nil)) (pa_cons (pe_tupC (pa_cons pe_int pa_nil)) (pa_cons (pe_tupC (pa_cons pe_int pa_nil)) (pa_cons (pe_tupC (pa_cons pe_int (pa_cons pe_int pa_nil))) (pa_cons (pe_tupC (pa_cons pe_int (pa_cons pe_int (pa_cons pe_int pa_nil)))) (pa_cons (pe_tupC (pa_cons pe_int (pa_cons pe_int pa_nil))) (pa_cons (pe_tupC (pa_cons pe_int (pa_cons pe_int pa_nil))) (pa_cons (pe_tupC (pa_cons pe_int (pa_cons pe_int (pa_cons pe_int pa_nil)))) (pa_cons (pe_tupC (pa_cons pe_int (pa_cons pe_int pa_nil))) (pa_cons (pe_tupC (pa_cons pe_int (pa_cons pe_int pa_nil))) pa_nil))))))))))))))
      (pss_one (ps_ret (pe_call G__law_of (hr.mono (by decide)) (by rfl) g__law_of F__law_of.kp (bi__law_of F__law_of) .nil pass0 (pa_cons (pv 0) (pa_cons (pe_op op_cat (pv 1) (pe_lst (pa_cons (pe_tupC (pa_cons pe_int (pa_cons pe_int (pa_cons pe_int pa_nil)))) (pa_cons (pe_tupC (pa_cons pe_int (pa_cons pe_int (pa_cons pe_int pa_nil)))) pa_nil)))) pa_nil)))))), ?r⟩)
  case len =>
    obtain ⟨l, ws, B, ds, m, rfl, _, _, _, is, ⟨_, rfl⟩, _⟩ := h
    show ws.length + 1 = 1
    rw [is.length]; rfl
  case r =>
    refine body_H h fun a ds m hp hl => ?_
    obtain ⟨hm, rfl⟩ := hp
    walk_at "body"
    walk_at "ev"
    refine v_catL (by simp) ?_
    walk_at "ev"
    refine ⟨⟨by omega, _, _, rfl, rfl, by simp, by simp⟩, fun m2 d hd => ?_⟩
    obtain ⟨hm2, c, xs, e, hc, hx⟩ := hd
    cases e
    cases hc
    obtain ⟨ms, h1, h2, rfl⟩ := scales14 hx
    exact ⟨hm2, ms, ⟨h1, h2⟩, rfl⟩

theorem ok__law_colours {f : Addr} {fd : FuncData} (F : Fun K "_law_colours" "_law_colours" s__law_colours f fd)
    {f__law_take : Addr} {fd__law_take : FuncData} (F__law_take : Fun K "_law_take" "_law_take" s__law_take f__law_take fd__law_take)
    (G__law_take : FnOk P w K mg base CX0 1 f__law_take fd__law_take ["_law_hand_here", "_law_many"] (SpH K preTake psiTake))
    (g__law_take : mg "_law_take" = some (.ref f__law_take))
    {f__law_of : Addr} {fd__law_of : FuncData} (F__law_of : Fun K "_law_of" "_law_of" s__law_of f__law_of fd__law_of)
    (G__law_of : FnOk P w K mg base CX0 2 f__law_of fd__law_of ["_law_hand_here", "_law_some"] (SpH K preOf psiOf))
    (g__law_of : mg "_law_of" = some (.ref f__law_of))
    (m_range : mg "range" = none)
    (m_tuple : mg "tuple" = none) :
    FnOk P w K mg base CX0 3 f fd ["_law_hand_here", "_law_most"] (SpH K preCol psiCol) := by
  refine F.ok sc__law_colours (fun vs H Q E h => ?len) (fun cdv A outer s H vs Q E hr h => ⟨_, (pss_cons (ps_set (i := 2) sc__law_colours.nd rfl (by first | exact Or.inl rfl | exact Or.inr rfl) (pe_call G__law_of (hr.mono (by decide)) (by rfl) g__law_of F__law_of.kp (bi__law_of F__law_of) .nil pass0 (pa_cons (pv 0) (pa_cons (pe_lst (pa_cons (pe_tupC (pa_cons pe_int pa_nil)) (pa_cons (pe_tupC (pa_cons pe_int (pa_cons pe_int (pa_cons pe_int pa_nil)))) (pa_cons (pe_tupC (pa_cons pe_int (pa_cons pe_int (pa_cons pe_int (pa_cons pe_int (pa_cons pe_int (pa_cons pe_int (pa_cons pe_int (pa_cons pe_int (pa_cons pe_int (pa_cons pe_int pa_nil))))))))))) (pa_cons (pe_tupC (pa_cons pe_int (pa_cons pe_int (pa_cons pe_int pa_nil)))) pa_nil))))) pa_nil))))
      (pss_one (ps_ret (pe_callTy (show CallR _ _ (rTupC K) from call_tupC) (by rfl) m_tuple (by decide +kernel) (pa_cons (pe_lc (own := [("_law_turn", 3)]) (g := gName 3) (tt := tYes) rfl sc__law_colours.nd (pi_range1 rfl m_range (pa_cons (pe_op op_add pe_int (pe_call G__law_take (hr.mono (by decide)) (by rfl) g__law_take F__law_take.kp (bi__law_take F__law_take) .nil pass0 (pa_cons (pv 0) (pa_cons (pe_op op_sub (pv 1) pe_int) pa_nil)))) pa_nil)) (blkOk_by (own := [("_law_turn", 3)]) (N := ["_law_hand_here", "_law_most", "_law_kinds", "_law_turn"]) (sc := defScope s__law_colours) (by decide +kernel)) (fun _ _ _ _ _ => (pg_name (i := 3) sc__law_colours.nd rfl (by first | exact Or.inl rfl | exact Or.inr rfl))) (fun _ _ _ _ _ => pts_nil) (fun _ _ _ _ _ => (pe_call G__law_of (hr.mono (by decide)) (by rfl) g__law_of F__law_of.kp (bi__law_of F__law_of) .nil pass0 (pa_cons (pv 0) (pa_cons (pv 2) pa_nil))))) pa_nil))))), ?r⟩)
  case len =>
    obtain ⟨l, ws, B, ds, m, rfl, _, _, _, is, ⟨_, z, rfl, _⟩, _⟩ := h
    show ws.length + 1 = 2
    rw [is.length]; rfl
  case r =>
    refine body_H h fun a ds m hp hl => ?_
    obtain ⟨hm, z, rfl, hz, hz2⟩ := hp
    walk_at "body"
    walk_at "ev"
    refine ⟨⟨by omega, _, _, rfl, rfl, by simp, by simp⟩, fun m2 d hd => ?_⟩
    obtain ⟨hm2, c, xs, e, hc, hx⟩ := hd
    cases e
    cases hc
    have hk : ∃ ks : List Int, d = .tup (dints ks) ∧ ks ≠ [] ∧ ks.length ≤ 10 ∧ ∀ n ∈ ks, 0 ≤ n ∧ n ≤ 9 := by
      simp only [List.mem_cons, List.not_mem_nil, or_false] at hx
      rcases hx with rfl | rfl | rfl | rfl
      · exact ⟨[0], rfl, by simp, by simp, by simp⟩
      · exact ⟨[0, 0, 1], rfl, by simp, by simp, by simp⟩
      · exact ⟨[7, 3, 2, 9, 5, 0, 1, 4, 6, 8], rfl, by simp, by simp, by simp⟩
      · exact ⟨[9, 0, 4], rfl, by simp, by simp, by simp⟩
    obtain ⟨ks, rfl, hk1, hk2, hk3⟩ := hk
    refine s_ret (e_cb (a_cons (e_lcR rfl ?_)))
    walk_at "ev"
    refine ⟨⟨by omega, _, rfl, by omega, takeB_of (by omega)⟩, fun m3 d3 q3 => ?_⟩
    obtain ⟨hm3, n3, r3, e3, rfl, q4, q5⟩ := q3
    cases e3
    walk_at "ev"
    refine ⟨by omega, by omega, fun i n acc => n ≤ m3 + i ∧ ∃ hs : List Int, acc = dints hs ∧ hs.length = i ∧ ∀ n ∈ hs, 0 ≤ n ∧ n ≤ 9, ⟨by omega, [], rfl, rfl, by simp⟩, ?_, ?_⟩
    · intro i n acc hi hI _
      obtain ⟨hn, hs, rfl, hl2, hb⟩ := hI
      walk_at "ev"
      refine ⟨⟨by omega, _, _, rfl, rfl, ?_, by rw [dints_length]; omega⟩, fun m5 d5 q5 => ?_⟩
      · intro w
        exact hk1 (dints_inj (b := []) w)
      · obtain ⟨hm5, c, xs, e, hc, hx⟩ := q5
        cases e
        cases hc
        obtain ⟨y, hy, rfl⟩ := List.mem_map.mp hx
        refine ⟨by omega, hs ++ [y], by rw [dints_snoc], by simp [hl2], fun n hn => ?_⟩
        rcases List.mem_append.mp hn with w | w
        · exact hb n w
        · rw [List.mem_singleton] at w
          subst w
          exact hk3 _ hy
    · intro n acc hal hI
      obtain ⟨hn, hs, rfl, hl2, hb⟩ := hI
      walk_at "ev"
      refine ⟨by omega, hs, z, rfl, rfl, ⟨by omega, by omega, hb⟩, by omega⟩

theorem ok__law_grid {f : Addr} {fd : FuncData} (F : Fun K "_law_grid" "_law_grid" s__law_grid f fd)
    {f__law_take : Addr} {fd__law_take : FuncData} (F__law_take : Fun K "_law_take" "_law_take" s__law_take f__law_take fd__law_take)
    (G__law_take : FnOk P w K mg base CX0 1 f__law_take fd__law_take ["_law_hand_here", "_law_many"] (SpH K preTake psiTake))
    (g__law_take : mg "_law_take" = some (.ref f__law_take))
    {f__law_knot : Addr} {fd__law_knot : FuncData} (F__law_knot : Fun K "_law_knot" "_law_knot" s__law_knot f__law_knot fd__law_knot)
    (G__law_knot : FnOk P w K mg base CX0 2 f__law_knot fd__law_knot ["_law_hand_here", "_law_scale_here"] (SpH K preKn psiKn))
    (g__law_knot : mg "_law_knot" = some (.ref f__law_knot))
    (m_len : mg "len" = none)
    (m_range : mg "range" = none)
    (m_tuple : mg "tuple" = none) :
    FnOk P w K mg base CX0 3 f fd ["_law_hand_here", "_law_scale_here", "_law_many"] (SpH K preGrid psiGrid) := by
  refine F.ok sc__law_grid (fun vs H Q E h => ?len) (fun cdv A outer s H vs Q E hr h => ⟨_, (pss_cons (ps_asg (pe_tupC (pa_cons (pe_lst pa_nil) (pa_cons (pe_call G__law_take (hr.mono (by decide)) (by rfl) g__law_take F__law_take.kp (bi__law_take F__law_take) .nil pass0 (pa_cons (pv 0) (pa_cons pe_int pa_nil))) (pa_cons (pe_op (show OpR _ _ (rRepA K) from op_repA) (pe_tupC (pa_cons pe_int pa_nil)) (pe_callB (show CallR _ _ (rLenQ K) from call_len_seq) (by rfl) m_len (by decide +kernel) (pa_cons (pv 1) pa_nil))) pa_nil)))) (pg_tup rfl (pgs_cons (pg_name (i := 4) sc__law_grid.nd rfl (by first | exact Or.inl rfl | exact Or.inr rfl)) (pgs_cons (pg_name (i := 5) sc__law_grid.nd rfl (by first | exact Or.inl rfl | exact Or.inr rfl)) (pgs_cons (pg_name (i := 6) sc__law_grid.nd rfl (by first | exact Or.inl rfl | exact Or.inr rfl)) pgs_nil)))))
      (pss_cons (ps_for PassesOwn.never rfl (pi_range1 rfl m_range (pa_cons (pv 2) pa_nil)) (pg_name (i := 3) sc__law_grid.nd rfl (by first | exact Or.inl rfl | exact Or.inr rfl)) (pss_one (ps_expr (pe_bm PySem.F.plainAttrs_list PySem.F.slot_list_append PySem.F.type_list_append mt_append (pv 4) (pa_cons (pe_callTy (show CallR _ _ (rTupC K) from call_tupC) (by rfl) m_tuple (by decide +kernel) (pa_cons (pe_lc (own := [("_law_to", 7)]) (g := gName 7) (tt := tYes) rfl sc__law_grid.nd (pi_range1 rfl m_range (pa_cons (pv 3) pa_nil)) (blkOk_by (own := [("_law_to", 7)]) (N := ["_law_hand_here", "_law_scale_here", "_law_many", "_law_at", "_law_found", "_law_dense", "_law_bare", "_law_to"]) (sc := defScope s__law_grid) (by decide +kernel)) (fun _ _ _ _ _ => (pg_name (i := 7) sc__law_grid.nd rfl (by first | exact Or.inl rfl | exact Or.inr rfl))) (fun _ _ _ _ _ => pts_nil) (fun _ _ _ _ _ => (pe_ifExp (pt_cmpR op_ge (pe_call G__law_take (hr.mono (by decide)) (by rfl) g__law_take F__law_take.kp (bi__law_take F__law_take) .nil pass0 (pa_cons (pv 0) (pa_cons pe_int pa_nil))) (pv 5) (nomark _)) (pe_call G__law_knot (hr.mono (by decide)) (by rfl) g__law_knot F__law_knot.kp (bi__law_knot F__law_knot) .nil pass0 (pa_cons (pv 0) (pa_cons (pv 1) pa_nil))) (pv 6)))) pa_nil)) pa_nil)))))
      (pss_one (ps_ret (pe_callTy (show CallR _ _ (rTupC K) from call_tupC) (by rfl) m_tuple (by decide +kernel) (pa_cons (pv 4) pa_nil)))))), ?r⟩)
  case len =>
    obtain ⟨l, ws, B, ds, m, rfl, _, _, _, is, ⟨_, ms, n, rfl, _⟩, _⟩ := h
    show ws.length + 1 = 3
    rw [is.length]; rfl
  case r =>
    refine body_H h fun a ds m hp hl => ?_
    obtain ⟨hm, ms, n, rfl, hM, hn0, hn16⟩ := hp
    have hl3 := hM.2.1
    walk_at "body"
    refine s_seq (s_unp3Own (by decide) (by decide) ?_)
    walk_at "ev"
    refine ⟨⟨by omega, _, rfl, by omega, takeB_of (by omega)⟩, fun m3 d3 q3 => ?_⟩
    obtain ⟨hm3, n3, r3, e3, rfl, q4, q5⟩ := q3
    cases e3
    walk_at "ev"
    refine s_forR ?_
    walk_at "ev"
    refine ⟨by omega, by omega, fun i k ρ' => k ≤ m3 + 70 * i ∧ ∃ (T : List (List (List Int))) (x6 : Option Sl), TabP ms i T ∧ ρ' = [some .hand, some (.dat (.tup (dints ms))), some (.dat (.int n)), x6, some (.own (T.map fun r => .tup (r.map fun t => .tup (dints t)))), some (.dat (.int r3)), some (.dat (.tup (dints (List.replicate ms.length 0)))), none], ⟨by omega, [], _, ⟨rfl, fun i r h => by simp at h⟩, rfl⟩, ?_, ?_⟩
    · intro i k ρ' hi hI
      obtain ⟨hk, T, x6, hT, rfl⟩ := hI
      refine s_app (i := 4) rfl (by rw [List.length_map, hT.1]; omega) ?_
      refine e_cb (a_cons (e_lcR rfl ?_))
      walk_at "ev"
      refine ⟨by omega, by omega, fun j k2 acc => k2 ≤ k + 4 * j ∧ ∃ r : List (List Int), acc = (r.map fun t => D.tup (dints t)) ∧ r.length = j ∧ ∀ t ∈ r, TieP ms t, ⟨by omega, [], rfl, rfl, by simp⟩, ?_, ?_⟩
      · intro j k2 acc hj hI2 _
        obtain ⟨hk2, r, rfl, hr, hrt⟩ := hI2
        have fin : ∀ (t : List Int), TieP ms t → ∃ r' : List (List Int), (r.map fun t => D.tup (dints t)) ++ [.tup (dints t)] = (r'.map fun t => D.tup (dints t)) ∧ r'.length = j + 1 ∧ ∀ t ∈ r', TieP ms t := by
          intro t ht
          refine ⟨r ++ [t], by simp, by simp [hr], fun u hu => ?_⟩
          rcases List.mem_append.mp hu with w | w
          · exact hrt u w
          · rw [List.mem_singleton] at w
            subst w
            exact ht
        walk_at "ev"
        refine ⟨⟨by omega, _, rfl, by omega, takeB_of (by omega)⟩, fun m5 d5 q5 => ?_⟩
        obtain ⟨hm5, n5, r5, e5, rfl, _, _⟩ := q5
        walk_at "ev"
        cases decide (r5 ≥ r3) with
        | true =>
          show EvC _ _ _ _ _ _
          walk_at "ev"
          refine ⟨⟨by omega, ms, rfl, hM⟩, fun m6 d6 q6 => ?_⟩
          obtain ⟨hm6, ms6, t6, e6, ht6, rfl⟩ := q6
          cases tup_inj (List.cons.inj e6).1
          exact ⟨by omega, fin t6 ht6⟩
        | false =>
          show EvC _ _ _ _ _ _
          walk_at "ev"
          exact ⟨by omega, fin _ (rep_tie hM)⟩
      · intro k2 acc _ hI2
        obtain ⟨hk2, r, rfl, hr, hrt⟩ := hI2
        walk_at "ev"
        refine ⟨by omega, T ++ [r], some (.dat (.int i)), ?_, ?_⟩
        · refine ⟨by simp [hT.1], fun c r' hc => ?_⟩
          by_cases w : c < T.length
          · rw [List.getElem?_append_left w] at hc
            exact hT.2 c r' hc
          · have hc2 : c = T.length := by
              have := (List.getElem?_eq_some_iff.mp hc).1
              simp at this
              omega
            subst hc2
            rw [List.getElem?_append_right (Nat.le_refl _)] at hc
            simp at hc
            subst hc
            exact ⟨by rw [hr, hT.1]; simp, hrt⟩
        · rw [List.map_append]
          rfl
    · intro k ρ' hI
      obtain ⟨hk, T, x6, hT, rfl⟩ := hI
      show SvC _ _ _ _ _ _ _
      refine s_freeze (i := 4) rfl ?_
      walk_at "ev"
      exact ⟨by omega, ms, n, T, rfl, hT, rfl⟩

theorem ok__law_spot {f : Addr} {fd : FuncData} (F : Fun K "_law_spot" "_law_spot" s__law_spot f fd)
    {f__law_knot : Addr} {fd__law_knot : FuncData} (F__law_knot : Fun K "_law_knot" "_law_knot" s__law_knot f__law_knot fd__law_knot)
    (G__law_knot : FnOk P w K mg base CX0 2 f__law_knot fd__law_knot ["_law_hand_here", "_law_scale_here"] (SpH K preKn psiKn))
    (g__law_knot : mg "_law_knot" = some (.ref f__law_knot))
    (m_len : mg "len" = none)
    (m_range : mg "range" = none)
    (m_tuple : mg "tuple" = none) :
    FnOk P w K mg base CX0 3 f fd ["_law_hand_here", "_law_scale_here", "_law_many", "_law_at"] (SpH K preSpot psiSpot) := by
  refine F.ok sc__law_spot (fun vs H Q E h => ?len) (fun cdv A outer s H vs Q E hr h => ⟨_, (pss_one (ps_ret (pe_tupC (pa_cons (pv 3) (pa_cons (pe_callTy (show CallR _ _ (rTupC K) from call_tupC) (by rfl) m_tuple (by decide +kernel) (pa_cons (pe_lc (own := [("_law_to", 4)]) (g := gName 4) (tt := tYes) rfl sc__law_spot.nd (pi_range1 rfl m_range (pa_cons (pv 2) pa_nil)) (blkOk_by (own := [("_law_to", 4)]) (N := ["_law_hand_here", "_law_scale_here", "_law_many", "_law_at", "_law_to"]) (sc := defScope s__law_spot) (by decide +kernel)) (fun _ _ _ _ _ => (pg_name (i := 4) sc__law_spot.nd rfl (by first | exact Or.inl rfl | exact Or.inr rfl))) (fun _ _ _ _ _ => pts_nil) (fun _ _ _ _ _ => (pe_ifExp (pt_cmpR op_eq (pv 4) (pv 3) (nomark _)) (pe_op (show OpR _ _ (rRepA K) from op_repA) (pe_tupC (pa_cons pe_int pa_nil)) (pe_callB (show CallR _ _ (rLenQ K) from call_len_seq) (by rfl) m_len (by decide +kernel) (pa_cons (pv 1) pa_nil))) (pe_call G__law_knot (hr.mono (by decide)) (by rfl) g__law_knot F__law_knot.kp (bi__law_knot F__law_knot) .nil pass0 (pa_cons (pv 0) (pa_cons (pv 1) pa_nil)))))) pa_nil)) pa_nil))))), ?r⟩)
  case len =>
    obtain ⟨l, ws, B, ds, m, rfl, _, _, _, is, ⟨_, ms, n, a, rfl, _⟩, _⟩ := h
    show ws.length + 1 = 4
    rw [is.length]; rfl
  case r =>
    refine body_H h fun ad ds m hp hl => ?_
    obtain ⟨hm, ms, n, a, rfl, hM, ha, hn⟩ := hp
    walk_at "body"
    walk_at "ev"
    refine e_lcRd rfl ?_
    walk_at "ev"
    refine ⟨n, 3, fun i y => ∃ t, y = D.tup (dints t) ∧ TieP ms t ∧ (i = a → t = List.replicate ms.length 0), rfl, by omega, fun i k hi hk => ?_, fun k ys hk hy hP => ?_⟩
    · walk_at "ev"
      by_cases e : (i : Int) = a
      · walk_at "yes"
        walk_at "ev"
        exact ⟨rep_tie hM, fun _ => rfl⟩
      · walk_at "no"
        walk_at "ev"
        refine ⟨⟨by omega, ms, rfl, hM⟩, fun m6 d6 q6 => ?_⟩
        obtain ⟨hm6, ms6, t6, e6, ht6, rfl⟩ := q6
        cases tup_inj (List.cons.inj e6).1
        exact ⟨by omega, t6, rfl, ht6, fun w => absurd (by omega) e⟩
    · obtain ⟨S, rfl, hS⟩ := map_dints hP
      rw [List.length_map] at hy
      walk_at "ev"
      refine ⟨by omega, ms, n, a, S, rfl, ⟨ha, hy, fun t ht => ?_, ?_⟩, rfl⟩
      · obtain ⟨i, hi⟩ := List.getElem?_of_mem ht
        exact (hS i t hi).1
      · obtain ⟨t, et⟩ := says_get hy ha
        rw [et, (hS a t et).2 rfl]

theorem ok__law_leads {f : Addr} {fd : FuncData} (F : Fun K "_law_leads" "_law_leads" s__law_leads f fd)
    {f__law_mixed : Addr} {fd__law_mixed : FuncData} (F__law_mixed : Fun K "_law_mixed" "_law_mixed" s__law_mixed f__law_mixed fd__law_mixed)
    (G__law_mixed : FnOk P w K mg base CX0 2 f__law_mixed fd__law_mixed ["_law_hand_here", "_law_some"] (SpF K preMix psiMix))
    (g__law_mixed : mg "_law_mixed" = some (.ref f__law_mixed))
    (m_dict : mg "dict" = none)
    (m_len : mg "len" = none)
    (m_range : mg "range" = none)
    (m_tuple : mg "tuple" = none) :
    FnOk P w K mg base CX0 3 f fd ["_law_hand_here", "_law_hues"] (SpH K preLd psiLd) := by
  refine F.ok sc__law_leads (fun vs H Q E h => ?len) (fun cdv A outer s H vs Q E hr h => ⟨_, (pss_cons (ps_set (i := 2) sc__law_leads.nd rfl (by first | exact Or.inl rfl | exact Or.inr rfl) (pe_callTy (show CallR _ _ (rDct K) from call_dictP rfl) (by rfl) m_dict (by decide +kernel) (pa_cons (pe_lc (own := [("_law_hue", 3)]) (g := gName 3) (tt := tYes) rfl sc__law_leads.nd (pi_tup (pv 1)) (blkOk_by (own := [("_law_hue", 3)]) (N := ["_law_hand_here", "_law_hues", "_law_left", "_law_hue", "_law_at"]) (sc := defScope s__law_leads) (by decide +kernel)) (fun _ _ _ _ _ => (pg_name (i := 3) sc__law_leads.nd rfl (by first | exact Or.inl rfl | exact Or.inr rfl))) (fun _ _ _ _ _ => pts_nil) (fun _ _ _ _ _ => (pe_tupC (pa_cons (pv 3) (pa_cons (pe_call G__law_mixed (hr.mono (by decide)) (by rfl) g__law_mixed F__law_mixed.kp (bi__law_mixed F__law_mixed) .nil pass0 (pa_cons (pv 0) (pa_cons (pe_lc (own := [("_law_at", 4)]) (g := gName 4) rfl sc__law_leads.nd (pi_range1 rfl m_range (pa_cons (pe_callB (show CallR _ _ (rLenQ K) from call_len_seq) (by rfl) m_len (by decide +kernel) (pa_cons (pv 1) pa_nil)) pa_nil)) (blkOk_by (own := [("_law_at", 4)]) (N := ["_law_hand_here", "_law_hues", "_law_left", "_law_hue", "_law_at"]) (by show blkC _ (relS _ (defScope s__law_leads)) _ _ = true; decide +kernel)) (fun _ _ _ _ _ => (pg_name (i := 4) sc__law_leads.nd rfl (by first | exact Or.inl rfl | exact Or.inr rfl))) (fun _ _ _ _ _ => (pts_one (pt_cmpR op_eq (pe_ix (show IxR _ (rIxT K) from ix_tup) (pv 1) (pv 4) (fun _ _ => rfl)) (pv 3) (nomark _)))) (fun _ _ _ _ _ => (pv 4))) pa_nil))) pa_nil))))) pa_nil)))
      (pss_one (ps_ret (pe_callTy (show CallR _ _ (rTupC K) from call_tupC) (by rfl) m_tuple (by decide +kernel) (pa_cons (pe_lc (own := [("_law_hue", 3)]) (g := gName 3) (tt := tYes) rfl sc__law_leads.nd (pi_tup (pv 1)) (blkOk_by (own := [("_law_hue", 3)]) (N := ["_law_hand_here", "_law_hues", "_law_left", "_law_hue", "_law_at"]) (sc := defScope s__law_leads) (by decide +kernel)) (fun _ _ _ _ _ => (pg_name (i := 3) sc__law_leads.nd rfl (by first | exact Or.inl rfl | exact Or.inr rfl))) (fun _ _ _ _ _ => pts_nil) (fun _ _ _ _ _ => (pe_bm0K (K := K) rfl PySem.F.plainAttrs_list PySem.F.slot_list_pop PySem.F.type_list_pop mt_pop (pe_dgetR hr (pv 2) (pv 3) (fun _ _ => rfl))))) pa_nil))))), ?r⟩)
  case len =>
    obtain ⟨l, ws, B, ds, m, rfl, _, _, _, is, ⟨_, hs, rfl, _⟩, _⟩ := h
    show ws.length + 1 = 2
    rw [is.length]; rfl
  case r =>
    refine body_H h fun ad ds m hp hl => ?_
    obtain ⟨hm, hs, rfl, hn⟩ := hp
    walk_at "body"
    refine s_leads (h := 3) (d := 2) (k := 200) (hs := hs) (pos := posF hs) rfl rfl (by decide) rfl (by omega) (pos_len hs) (fun i n g hg hn2 => ?_) (fun n L hn2 hL => ?_)
    · walk_at "ro"
      have hi := (List.getElem?_eq_some_iff.mp hg).1
      refine f_call rfl ?_
      walk_at "ev"
      refine e_lcRxf rfl ?_
      walk_at "ev"
      rw [dints_length]
      refine ⟨hs.length, fun i => decide (hs.getD i 0 = g), fun i => .int i, rfl, by omega, fun j hj => ?_, fun j hj => ?_, ?_⟩
      · have hj2 : (dints hs)[j]? = some (.int (hs.getD j 0)) := by
          rw [dints, List.getElem?_map, List.getElem?_eq_getElem hj, List.getD_eq_getElem?_getD, List.getElem?_eq_getElem hj]
          rfl
        walk_at "ev"
        rfl
      · walk_at "ev"
        rfl
      · walk_at "ev"
        refine ⟨⟨by omega, _, _, rfl, rfl, ?_, ?_⟩, fun m2 es q => ?_⟩
        · rw [List.length_map]
          have := List.length_filter_le (fun i => decide (hs.getD i 0 = g)) (List.range hs.length)
          simp at this
          simp
          omega
        · intro x hx
          obtain ⟨j, hj, rfl⟩ := List.mem_map.mp hx
          have := List.mem_range.mp (List.mem_filter.mp hj).1
          exact .inl ((num_int (by omega) (by omega)).up (by omega) (by omega))
        · obtain ⟨q1, c, xs, e, hc, hP⟩ := q
          cases (List.cons.inj e).1
          cases hc
          have hP' : es.Perm (dints (posF hs g)) := by
            rw [posF, dints, List.map_map]; exact hP
          obtain ⟨L, rfl, hL⟩ := perm_ints hP'
          exact ⟨q1, L, rfl, hL⟩
    · obtain ⟨L', rfl, hL'⟩ := pop_lead hL
      refine ⟨by omega, hs, L', rfl, ?_, hL'⟩
      rw [List.map_map]
      rfl

theorem ok__law_near {f : Addr} {fd : FuncData} (F : Fun K "_law_near" "_law_near" s__law_near f fd)
    {f__law_of : Addr} {fd__law_of : FuncData} (F__law_of : Fun K "_law_of" "_law_of" s__law_of f__law_of fd__law_of)
    (G__law_of : FnOk P w K mg base CX0 2 f__law_of fd__law_of ["_law_hand_here", "_law_some"] (SpH K preOf psiOf))
    (g__law_of : mg "_law_of" = some (.ref f__law_of))
    (m_bool : mg "bool" = none)
    (m_int : mg "int" = none)
    (m_isinstance : mg "isinstance" = none)
    (m_list : mg "list" = none)
    (m_str : mg "str" = none)
    (m_tuple : mg "tuple" = none) :
    FnOk P w K mg base CX0 3 f fd ["_law_hand_here", "_law_part"] (SpH K preNr psiNr) := by
  refine F.ok sc__law_near (fun vs H Q E h => ?len) (fun cdv A outer s H vs Q E hr h => ⟨_, (pss_cons (ps_set (i := 2) sc__law_near.nd rfl (by first | exact Or.inl rfl | exact Or.inr rfl) (pe_lst (pa_cons pe_non (pa_cons pe_bl (pa_cons pe_bl (pa_cons pe_str (pa_cons (pe_tupC pa_nil) (pa_cons (pe_lst pa_nil) (pa_cons pe_dnewK (pa_cons (pe_un un_neg pe_int) (pa_cons (pe_op op_pow pe_int pe_int) (pa_cons (pe_tupC (pa_cons pe_int pa_nil)) pa_nil))))))))))))
      (pss_cons (ps_if (pt_val (pe_callB (show CallR _ _ (rIsi K) from call_isi) (by rfl) m_isinstance (by decide +kernel) (pa_cons (pv 1) (pa_cons (pe_bltn (v := .ty "int") (by rfl) m_int (by decide +kernel) rfl) pa_nil)))) (pss_one (ps_set (i := 2) sc__law_near.nd rfl (by first | exact Or.inl rfl | exact Or.inr rfl) (pe_op op_cat (pe_slice (show SlR _ (rSlL K) from sl_list) (pv 2) po_none (po_some pe_int)) (pe_lst (pa_cons (pe_callTy call_bool1 (by rfl) m_bool (by decide +kernel) (pa_cons (pv 1) pa_nil)) (pa_cons (pe_op Wt.op_addN (pv 1) pe_int) (pa_cons (pe_op Wt.op_subN (pv 1) pe_int) (pa_cons (pe_op op_sub (pe_un un_negN (pv 1)) pe_int) (pa_cons (pe_callTy (show CallR _ _ rStrN from call_strN) (by rfl) m_str (by decide +kernel) (pa_cons (pv 1) pa_nil)) (pa_cons (pe_tupC (pa_cons (pv 1) pa_nil)) (pa_cons (pe_lst (pa_cons (pv 1) pa_nil)) pa_nil))))))))))) (pss_one (ps_if (pt_val (pe_callB (show CallR _ _ (rIsi K) from call_isi) (by rfl) m_isinstance (by decide +kernel) (pa_cons (pv 1) (pa_cons (pe_bltn (v := .ty "tuple") (by rfl) m_tuple (by decide +kernel) rfl) pa_nil)))) (pss_one (ps_set (i := 2) sc__law_near.nd rfl (by first | exact Or.inl rfl | exact Or.inr rfl) (pe_op op_cat (pe_slice (show SlR _ (rSlL K) from sl_list) (pv 2) po_none (po_some pe_int)) (pe_lst (pa_cons (pe_callTy (show CallR _ _ (rListQ K) from call_list_of) (by rfl) m_list (by decide +kernel) (pa_cons (pv 1) pa_nil)) (pa_cons (pe_revTK (K := K) rfl (pv 1)) (pa_cons (pe_op (show OpR _ _ (rCatC K) from op_catC) (pv 1) (pe_tupC (pa_cons pe_int pa_nil))) (pa_cons (pe_tupC (pa_cons (pv 1) pa_nil)) (pa_cons (pe_slice (show SlR _ (rSlC K) from sl_tupC) (pv 1) (po_some pe_int) po_none) (pa_cons (pe_op (show OpR _ _ (rCatC K) from op_catC) (pv 1) (pe_slice (show SlR _ (rSlC K) from sl_tupC) (pv 1) (po_some (pe_un un_neg pe_int)) po_none)) (pa_cons (pe_op (show OpR _ _ (rCatC K) from op_catC) (pv 1) (pv 1)) pa_nil))))))))))) pss_nil)))
      (pss_one (ps_ret (pe_call G__law_of (hr.mono (by decide)) (by rfl) g__law_of F__law_of.kp (bi__law_of F__law_of) .nil pass0 (pa_cons (pv 0) (pa_cons (pv 2) pa_nil))))))), ?r⟩)
  case len =>
    obtain ⟨l, ws, B, ds, m, rfl, _, _, _, is, ⟨_, d, rfl, _⟩, _⟩ := h
    show ws.length + 1 = 2
    rw [is.length]; rfl
  case r =>
    refine body_H h fun ad ds m hp hl => ?_
    obtain ⟨hm, d, rfl, hF⟩ := hp
    have ho : d.own = false := plain_own hF.plain
    walk_at "body"
    walk_at "ev"
    refine ⟨ho, _, rfl, ?_⟩
    cases d with
    | tup xs =>
      have hxl := hF.len
      have cl : ∀ lo hi, (Wt.cutD xs lo hi).length ≤ xs.length := fun lo hi => (cut_sub xs lo hi).length_le
      show if false = true then _ else _
      walk_at "ev"
      show if true = true then _ else _
      walk_at "ev"
      refine v_catT (by simp; omega) ?_
      walk_at "ev"
      refine v_catT (by have := cl (some (-1)) none; omega) ?_
      walk_at "ev"
      refine v_catT (by omega) ?_
      walk_at "ev"
      rw [show Wt.cutD [D.non, D.bl true, D.bl false, D.str (Str.ofString ""), D.tup [], D.lst [], D.dic [], D.int (-1), D.int (10 ^ Int.toNat 20), D.tup [D.int 0]] none (some 4) = near4 from rfl]
      refine v_catL (by simp [near4]) ?_
      walk_at "ro"
      walk_at "ev"
      refine g_of (by omega) rfl (by simp [near4]) (by simp [near4]) fun m2 r q2 hr => ?_
      refine ⟨q2, _, rfl, fun b k w hs h5 h8 => ?_⟩
      have hr : r ∈ near4 ++ [D.lst xs, D.tup xs.reverse, D.tup (xs ++ [D.int 0]), D.tup [D.tup xs], D.tup (Wt.cutD xs (some 1) none), D.tup (xs ++ Wt.cutD xs (some (-1)) none), D.tup (xs ++ xs)] := hr
      rcases List.mem_append.mp hr with hr | hr
      · exact near4_ok h5 r hr
      obtain ⟨k', rfl, s⟩ := sm_kk hs
      simp only [List.mem_cons, List.not_mem_nil, or_false] at hr
      rcases hr with rfl | rfl | rfl | rfl | rfl | rfl | rfl
      · exact s.lst.up (by omega) (by omega) (by omega)
      · exact s.rev.tup.up (by omega) (by omega) (by omega)
      · have e : Sms b k' 16 [D.int 0] := Sms.one (w := 15) ((sm_int (b := b) (i := 0) (by omega) (by omega) (by omega) (by omega)).up (by omega) (by omega) (by omega))
        exact (s.app e).tup.up (by omega) (by omega) (by omega)
      · exact (Sms.one hs).tup.up (by omega) (by omega) (by omega)
      · exact (s.sub (cut_sub xs _ _)).tup.up (by omega) (by omega) (by omega)
      · exact (s.app (s.sub (cut_sub xs _ _))).tup.up (by omega) (by omega) (by omega)
      · exact (s.app s).tup.up (by omega) (by omega) (by omega)
    | int i =>
      obtain ⟨b0, k0, w0, s0, _⟩ := hF
      show if true = true then _ else _
      walk_at "ev"
      rw [show Wt.cutD [D.non, D.bl true, D.bl false, D.str (Str.ofString ""), D.tup [], D.lst [], D.dic [], D.int (-1), D.int (10 ^ Int.toNat 20), D.tup [D.int 0]] none (some 4) = near4 from rfl]
      refine v_boolN rfl fun c1 => ?_
      walk_at "ev"
      refine v_num (i := i) rfl ?_
      walk_at "ev"
      refine v_num (i := i) rfl ?_
      walk_at "ev"
      refine v_negN (i := i) rfl ?_
      walk_at "ev"
      refine v_strN s0.itm rfl fun x hx => ?_
      walk_at "ev"
      refine v_catL (by simp [near4]) ?_
      walk_at "ro"
      walk_at "ev"
      refine g_of (by omega) rfl (by simp [near4]) (by simp [near4]) fun m2 r q2 hr => ?_
      refine ⟨q2, _, rfl, fun b k w hs h5 h8 => ?_⟩
      have hr : r ∈ near4 ++ [D.bl c1, D.int (i + 1), D.int (i - 1), D.int (-i - 1), D.str x, D.tup [D.int i], D.lst [D.int i]] := hr
      rcases List.mem_append.mp hr with hr | hr
      · exact near4_ok h5 r hr
      simp only [List.mem_cons, List.not_mem_nil, or_false] at hr
      have hb := sm_of_int hs
      rcases hr with rfl | rfl | rfl | rfl | rfl | rfl | rfl
      · exact sm_bl h5
      · exact sm_near h8 (by omega) (by omega)
      · exact sm_near h8 (by omega) (by omega)
      · exact sm_near h8 (by omega) (by omega)
      · exact ⟨hx.mono (by omega) (by omega), rfl⟩
      · exact (Sms.one hs).tup.up (by omega) (by omega) (by omega)
      · exact (Sms.one hs).lst.up (by omega) (by omega) (by omega)
    | bl c =>
      obtain ⟨b0, k0, w0, s0, _⟩ := hF
      show if true = true then _ else _
      walk_at "ev"
      rw [show Wt.cutD [D.non, D.bl true, D.bl false, D.str (Str.ofString ""), D.tup [], D.lst [], D.dic [], D.int (-1), D.int (10 ^ Int.toNat 20), D.tup [D.int 0]] none (some 4) = near4 from rfl]
      refine v_boolN rfl fun c1 => ?_
      walk_at "ev"
      refine v_num (i := (if c = true then 1 else 0)) rfl ?_
      walk_at "ev"
      refine v_num (i := (if c = true then 1 else 0)) rfl ?_
      walk_at "ev"
      refine v_negN (i := (if c = true then 1 else 0)) rfl ?_
      walk_at "ev"
      refine v_strN s0.itm rfl fun x hx => ?_
      walk_at "ev"
      refine v_catL (by simp [near4]) ?_
      walk_at "ro"
      walk_at "ev"
      refine g_of (by omega) rfl (by simp [near4]) (by simp [near4]) fun m2 r q2 hr => ?_
      refine ⟨q2, _, rfl, fun b k w hs h5 h8 => ?_⟩
      have hr : r ∈ near4 ++ [D.bl c1, D.int ((if c = true then 1 else 0) + 1), D.int ((if c = true then 1 else 0) - 1), D.int (-(if c = true then 1 else 0) - 1), D.str x, D.tup [D.bl c], D.lst [D.bl c]] := hr
      rcases List.mem_append.mp hr with hr | hr
      · exact near4_ok h5 r hr
      simp only [List.mem_cons, List.not_mem_nil, or_false] at hr
      rcases hr with rfl | rfl | rfl | rfl | rfl | rfl | rfl
      · exact sm_bl h5
      · exact sm_near h8 (by split <;> omega) (by split <;> omega)
      · exact sm_near h8 (by split <;> omega) (by split <;> omega)
      · exact sm_near h8 (by split <;> omega) (by split <;> omega)
      · exact ⟨hx.mono (by omega) (by omega), rfl⟩
      · exact (Sms.one hs).tup.up (by omega) (by omega) (by omega)
      · exact (Sms.one hs).lst.up (by omega) (by omega) (by omega)
    | ins C ns xs => cases ho
    | dct ks xs => cases ho
    | _ =>
      show if false = true then _ else _
      walk_at "ev"
      show if false = true then _ else _
      walk_at "ev"
      refine g_of (by omega) rfl (by simp) (by simp) fun m2 r q2 hr => ?_
      exact ⟨q2, _, rfl, fun b k w hs h5 h8 => near_ok h5 r hr⟩

theorem ok__law_due {f : Addr} {fd : FuncData} (F : Fun K "_law_due" "_law_due" s__law_due f fd)
    {f__law_is_scale : Addr} {fd__law_is_scale : FuncData} (F__law_is_scale : Fun K "_law_is_scale" "_law_is_scale" s__law_is_scale f__law_is_scale fd__law_is_scale)
    (G__law_is_scale : FnOk P w K mg base CX0 2 f__law_is_scale fd__law_is_scale ["_law_item"] (SpP K preMeas fMeas))
    (g__law_is_scale : mg "_law_is_scale" = some (.ref f__law_is_scale))
    (m_all : mg "all" = none)
    (m_len : mg "len" = none)
    (m_zip : mg "zip" = none) :
    FnOk P w K mg base CX0 3 f fd ["_law_scale_here", "_law_item"] (SpP K preIc51 fIc51) := by
  refine F.ok sc__law_due (fun vs H Q E h => ?len) (fun cdv A outer s H vs Q E hr h => ⟨_, (pss_cons (ps_if (PW.pt (pw_or (pt_not (pt_val (pe_call G__law_is_scale (hr.mono (by decide)) (by rfl) g__law_is_scale F__law_is_scale.kp (bi__law_is_scale F__law_is_scale) .nil pass0 (pa_cons (pv 1) pa_nil)))) (pw_or1 (pt_cmpR op_ne (pe_callB (show CallR _ _ (rLenQ K) from call_len_seq) (by rfl) m_len (by decide +kernel) (pa_cons (pv 1) pa_nil)) (pe_callB (show CallR _ _ (rLenQ K) from call_len_seq) (by rfl) m_len (by decide +kernel) (pa_cons (pv 0) pa_nil)) (nomark _))))) (pss_one (ps_ret pe_bl)) pss_nil)
      (pss_one (ps_ret (pe_callB (show CallR _ _ (rAll K) from cr_all rfl) (by rfl) m_all (by decide +kernel) (pa_cons (pe_lc (own := [("_law_size_here", 2), ("_law_part", 3)]) (g := gTup K 2 (gCons (gName 2) (gCons (gName 3) gNil))) (tt := tYes) rfl sc__law_due.nd (RZ.pi_zipA (by rfl) m_zip (pa_cons (pv 0) (pa_cons (pv 1) pa_nil))) (blkOk_by (own := [("_law_size_here", 2), ("_law_part", 3)]) (N := ["_law_scale_here", "_law_item", "_law_size_here", "_law_part"]) (sc := defScope s__law_due) (by decide +kernel)) (fun _ _ _ _ _ => (pg_tup rfl (pgs_cons (pg_name (i := 2) sc__law_due.nd rfl (by first | exact Or.inl rfl | exact Or.inr rfl)) (pgs_cons (pg_name (i := 3) sc__law_due.nd rfl (by first | exact Or.inl rfl | exact Or.inr rfl)) pgs_nil)))) (fun _ _ _ _ _ => pts_nil) (fun _ _ _ _ _ => (pe_cmpR op_eq (pe_op op_mul (pe_op op_fdiv (pv 2) (pv 3)) (pv 3)) (pv 2) (nomark _)))) pa_nil))))), ?r⟩)
  case len =>
    obtain ⟨B, ds, _, is, ⟨ms, d, rfl, _⟩, _⟩ := h
    exact is.length
  case r =>
    refine body_P h fun ds hp hl => ?_
    obtain ⟨ms, d, rfl, hQ, hpl⟩ := hp
    rw [fIc51_is]
    walk_at "body"
    walk_at "ev"
    refine ⟨⟨_, rfl, hpl⟩, D.meas d, rfl, ?_⟩
    cases hm : D.meas d with
    | false =>
      rw [Bool.not_false, if_pos rfl]
      walk_at "ev"
      rw [cB_false fun z => by rw [cop_meas51 z] at hm; cases hm]
    | true =>
      obtain ⟨is, rfl, hI⟩ := meas_inv51 hm
      have h3 := hI.1.2.1
      rw [Bool.not_true, if_neg Bool.false_ne_true]
      walk_at "ev"
      rw [dints_length, dints_length]
      by_cases hl2 : is.length = ms.length
      · rw [decide_eq_true (show ((is.length : Nat) : Int) = ms.length by omega)]
        walk_at "ev"
        have h3m := hQ.1.2.1
        refine e_lcZ (i := 2) (j := 3) rfl rfl (by decide) ?_
        walk_at "ev"
        refine ⟨by rw [dints_length]; omega, fun c n acc => n = 0 ∧ acc = (((ms.zip is).take c).map fun p => decide (p.1 / p.2 * p.2 = p.1)).map D.bl, ⟨rfl, rfl⟩, fun c n acc d e hd he hI2 _ => ?_, fun n acc _ hI2 => ?_⟩
        · obtain ⟨rfl, rfl⟩ := hI2
          obtain ⟨x, hx, rfl⟩ := dints_get_of hd
          obtain ⟨y, hy, rfl⟩ := dints_get_of he
          have h2 : 2 ≤ y ∧ y ≤ 5 := hI.1.2.2 y (List.mem_of_getElem? hy)
          have h1 : 2 ≤ x ∧ x ≤ 5 := hQ.1.2.2 x (List.mem_of_getElem? hx)
          have hz : (ms.zip is)[c]? = some (x, y) := List.getElem?_zip_eq_some.mpr ⟨hx, hy⟩
          have hy0 : 0 < y := by omega
          have hcd : CDiv x y := by unfold CDiv; omega
          have hcm : CMul (x / y) y := .inr (by omega)
          walk_at "ro"
          walk_at "ev"
          rw [List.take_add_one, hz, Option.toList_some, List.map_append, List.map_append]
          rfl
        · obtain ⟨rfl, rfl⟩ := hI2
          refine a_nil (v_all ?_)
          rw [List.take_of_length_le (by rw [List.length_zip, dints_length, dints_length]; omega), cop_iff51 hQ hI hl2 (g := fun p => decide (p.1 / p.2 * p.2 = p.1)) div_mul51]
      · rw [decide_eq_false (show ¬ ((is.length : Nat) : Int) = ms.length by omega)]
        walk_at "ev"
        rw [cB_false fun z => by
          obtain ⟨is2, e, hc⟩ := z
          cases dints_inj (D.tup.inj e)
          exact hl2 hc.z.len]

theorem ok_are_hues {f : Addr} {fd : FuncData} (F : Fun K "are_hues" "are_hues" s_are_hues f fd)
    {f_is_within : Addr} {fd_is_within : FuncData} (F_is_within : Fun K "is_within" "is_within" s_is_within f_is_within fd_is_within)
    (G_is_within : FnOk P w K mg base CX0 2 f_is_within fd_is_within ["thing", "least", "most"] (SpP K preWithin fWithin))
    (g_is_within : mg "is_within" = some (.ref f_is_within))
    {f_is_hue : Addr} {fd_is_hue : FuncData} (F_is_hue : Fun K "is_hue" "is_hue" s_is_hue f_is_hue fd_is_hue)
    (G_is_hue : FnOk P w K mg base CX0 3 f_is_hue fd_is_hue ["thing"] (SpP K preWhole fHue))
    (g_is_hue : mg "is_hue" = some (.ref f_is_hue))
    {t_LEAST_STEMS : Tok} (c_LEAST_STEMS : mg "LEAST_STEMS" = some (.int 2 t_LEAST_STEMS))
    {t_MOST_STEMS : Tok} (c_MOST_STEMS : mg "MOST_STEMS" = some (.int 16 t_MOST_STEMS))
    (m_all : mg "all" = none)
    (m_isinstance : mg "isinstance" = none)
    (m_len : mg "len" = none)
    (m_tuple : mg "tuple" = none) :
    FnOk P w K mg base CX0 4 f fd ["thing"] (SpP K preMeas fHues) := by
  refine F.ok sc_are_hues (fun vs H Q E h => ?len) (fun cdv A outer s H vs Q E hr h => ⟨_, (pss_cons (ps_if (PW.pt (pw_or (pt_not (pt_val (pe_callB (show CallR _ _ (rIsi K) from call_isi) (by rfl) m_isinstance (by decide +kernel) (pa_cons (pv 0) (pa_cons (pe_bltn (v := .ty "tuple") (by rfl) m_tuple (by decide +kernel) rfl) pa_nil))))) (pw_or1 (pt_not (pt_val (pe_call G_is_within (hr.mono (by decide)) (by rfl) g_is_within F_is_within.kp (bi_is_within F_is_within) .nil pass0 (pa_cons (pe_callB (show CallR _ _ (rLenQ K) from call_len_seq) (by rfl) m_len (by decide +kernel) (pa_cons (pv 0) pa_nil)) (pa_cons (pe_glob (v := .int 2) (by rfl) c_LEAST_STEMS ⟨_, rfl⟩) (pa_cons (pe_glob (v := .int 16) (by rfl) c_MOST_STEMS ⟨_, rfl⟩) pa_nil))))))))) (pss_one (ps_ret pe_bl)) pss_nil)
      (pss_one (ps_ret (pe_callB (show CallR _ _ (rAll K) from cr_all rfl) (by rfl) m_all (by decide +kernel) (pa_cons (pe_lc (own := [("hue", 1)]) (g := gName 1) (tt := tYes) rfl sc_are_hues.nd (pi_tup (pv 0)) (blkOk_by (own := [("hue", 1)]) (N := ["thing", "hue"]) (sc := defScope s_are_hues) (by decide +kernel)) (fun _ _ _ _ _ => (pg_name (i := 1) sc_are_hues.nd rfl (by first | exact Or.inl rfl | exact Or.inr rfl))) (fun _ _ _ _ _ => pts_nil) (fun _ _ _ _ _ => (pe_call G_is_hue (hr.mono (by decide)) (by rfl) g_is_hue F_is_hue.kp (bi_is_hue F_is_hue) .nil pass0 (pa_cons (pv 1) pa_nil)))) pa_nil))))), ?r⟩)
  case len =>
    obtain ⟨B, ds, _, is, ⟨d, rfl, _⟩, _⟩ := h
    exact is.length
  case r =>
    refine body_P h fun ds hp hl => ?_
    obtain ⟨d, rfl, hpl⟩ := hp
    have ho : d.own = false := plain_own hpl
    walk_at "body"
    refine s_seq (s_if (t_or (t_not (t_B (e_isi kit_tup (e_var rfl ⟨ho, _, rfl, ?_⟩))))))
    cases d with
    | tup xs =>
      show TvC _ _ _ _ _ _
      refine t_not (t_B ?_)
      walk_at "ev"
      refine ⟨⟨_, _, _, rfl, rfl⟩, _, rfl, ?_⟩
      have ew : D.within 2 16 (.int xs.length) = (decide (2 ≤ xs.length) && decide (xs.length ≤ 16)) := by
        rw [D.within]
        congr 1
        · simp only [decide_eq_decide]; omega
        · simp only [decide_eq_decide]; omega
      cases e : D.within 2 16 (.int xs.length) with
      | false =>
        refine s_ret (e_bl ?_)
        show D.bl false = .bl (D.huesB (.tup xs))
        rw [D.huesB, ← ew, e]; rfl
      | true =>
        refine s_next ?_
        have hlen : xs.length ≤ 16 := by
          rw [e] at ew
          have := ew.symm
          rw [Bool.and_eq_true, decide_eq_true_eq, decide_eq_true_eq] at this
          exact this.2
        have hpx : ∀ x ∈ xs, x.own = false := fun x hx => plain_own (plains_mem (by simpa [D.plain] using hpl) hx)
        refine s_ret (e_cb (a_cons (e_lcT rfl (e_var rfl ⟨xs, rfl, by omega, fun i _ acc => acc = ((xs.take i).map (D.within 0 9)).map D.bl, rfl, ?_, ?_⟩))))
        · intro i n acc d hd hI _
          walk_at "ev"
          refine ⟨⟨_, rfl, hpx d (List.mem_of_getElem? hd)⟩, ?_⟩
          subst hI
          rw [List.take_add_one, hd]
          simp [fHue]
        · intro n acc _ hI
          subst hI
          rw [List.take_length]
          refine a_nil (v_all ?_)
          have ea : ((xs.map (D.within 0 9)).all id) = xs.all (D.within 0 9) := by
            rw [List.all_map]; rfl
          rw [ea]
          show D.bl _ = .bl (D.huesB (.tup xs))
          rw [D.huesB, ← ew, e]; rfl
    | _ => exact s_ret (e_bl rfl)

theorem ok_is_coarser {f : Addr} {fd : FuncData} (F : Fun K "is_coarser" "is_coarser" s_is_coarser f fd)
    {f_is_measure : Addr} {fd_is_measure : FuncData} (F_is_measure : Fun K "is_measure" "is_measure" s_is_measure f_is_measure fd_is_measure)
    (G_is_measure : FnOk P w K mg base CX0 3 f_is_measure fd_is_measure ["thing"] (SpP K preMeas fMeas))
    (g_is_measure : mg "is_measure" = some (.ref f_is_measure))
    (m_all : mg "all" = none)
    (m_len : mg "len" = none)
    (m_zip : mg "zip" = none) :
    FnOk P w K mg base CX0 4 f fd ["measure", "thing"] (SpP K preIc51 fIc51) := by
  refine F.ok sc_is_coarser (fun vs H Q E h => ?len) (fun cdv A outer s H vs Q E hr h => ⟨_, (pss_cons (ps_if (PW.pt (pw_or (pt_not (pt_val (pe_call G_is_measure (hr.mono (by decide)) (by rfl) g_is_measure F_is_measure.kp (bi_is_measure F_is_measure) .nil pass0 (pa_cons (pv 1) pa_nil)))) (pw_or1 (pt_cmpR op_ne (pe_callB (show CallR _ _ (rLenQ K) from call_len_seq) (by rfl) m_len (by decide +kernel) (pa_cons (pv 1) pa_nil)) (pe_callB (show CallR _ _ (rLenQ K) from call_len_seq) (by rfl) m_len (by decide +kernel) (pa_cons (pv 0) pa_nil)) (nomark _))))) (pss_one (ps_ret pe_bl)) pss_nil)
      (pss_one (ps_ret (pe_callB (show CallR _ _ (rAll K) from cr_all rfl) (by rfl) m_all (by decide +kernel) (pa_cons (pe_lc (own := [("number", 2), ("part", 3)]) (g := gTup K 2 (gCons (gName 2) (gCons (gName 3) gNil))) (tt := tYes) rfl sc_is_coarser.nd (RZ.pi_zipA (by rfl) m_zip (pa_cons (pv 0) (pa_cons (pv 1) pa_nil))) (blkOk_by (own := [("number", 2), ("part", 3)]) (N := ["measure", "thing", "number", "part"]) (sc := defScope s_is_coarser) (by decide +kernel)) (fun _ _ _ _ _ => (pg_tup rfl (pgs_cons (pg_name (i := 2) sc_is_coarser.nd rfl (by first | exact Or.inl rfl | exact Or.inr rfl)) (pgs_cons (pg_name (i := 3) sc_is_coarser.nd rfl (by first | exact Or.inl rfl | exact Or.inr rfl)) pgs_nil)))) (fun _ _ _ _ _ => pts_nil) (fun _ _ _ _ _ => (pe_cmpR op_eq (pe_op op_mod (pv 2) (pv 3)) pe_int (nomark _)))) pa_nil))))), ?r⟩)
  case len =>
    obtain ⟨B, ds, _, is, ⟨ms, d, rfl, _⟩, _⟩ := h
    exact is.length
  case r =>
    refine body_P h fun ds hp hl => ?_
    obtain ⟨ms, d, rfl, hQ, hpl⟩ := hp
    rw [fIc51_is]
    walk_at "body"
    walk_at "ev"
    refine ⟨⟨_, rfl, hpl⟩, D.meas d, rfl, ?_⟩
    cases hm : D.meas d with
    | false =>
      rw [Bool.not_false, if_pos rfl]
      walk_at "ev"
      rw [cB_false fun z => by rw [cop_meas51 z] at hm; cases hm]
    | true =>
      obtain ⟨is, rfl, hI⟩ := meas_inv51 hm
      have h3 := hI.1.2.1
      rw [Bool.not_true, if_neg Bool.false_ne_true]
      walk_at "ev"
      rw [dints_length, dints_length]
      by_cases hl2 : is.length = ms.length
      · rw [decide_eq_true (show ((is.length : Nat) : Int) = ms.length by omega)]
        walk_at "ev"
        have h3m := hQ.1.2.1
        refine e_lcZ (i := 2) (j := 3) rfl rfl (by decide) ?_
        walk_at "ev"
        refine ⟨by rw [dints_length]; omega, fun c n acc => n = 0 ∧ acc = (((ms.zip is).take c).map fun p => decide (p.1 % p.2 = 0)).map D.bl, ⟨rfl, rfl⟩, fun c n acc d e hd he hI2 _ => ?_, fun n acc _ hI2 => ?_⟩
        · obtain ⟨rfl, rfl⟩ := hI2
          obtain ⟨x, hx, rfl⟩ := dints_get_of hd
          obtain ⟨y, hy, rfl⟩ := dints_get_of he
          have h2 : 2 ≤ y ∧ y ≤ 5 := hI.1.2.2 y (List.mem_of_getElem? hy)
          have h1 : 2 ≤ x ∧ x ≤ 5 := hQ.1.2.2 x (List.mem_of_getElem? hx)
          have hz : (ms.zip is)[c]? = some (x, y) := List.getElem?_zip_eq_some.mpr ⟨hx, hy⟩
          have hy0 : 0 < y := by omega
          have hcd : CDiv x y := by unfold CDiv; omega
          have hcm : CMul (x / y) y := .inr (by omega)
          walk_at "ro"
          walk_at "ev"
          rw [List.take_add_one, hz, Option.toList_some, List.map_append, List.map_append]
          rfl
        · obtain ⟨rfl, rfl⟩ := hI2
          refine a_nil (v_all ?_)
          rw [List.take_of_length_le (by rw [List.length_zip, dints_length, dints_length]; omega), cop_iff51 hQ hI hl2 (g := fun p => decide (p.1 % p.2 = 0)) (fun p _ => decide_eq_true_iff)]
      · rw [decide_eq_false (show ¬ ((is.length : Nat) : Int) = ms.length by omega)]
        walk_at "ev"
        rw [cB_false fun z => by
          obtain ⟨is2, e, hc⟩ := z
          cases dints_inj (D.tup.inj e)
          exact hl2 hc.z.len]

theorem ok__law_turning {f : Addr} {fd : FuncData} (F : Fun K "_law_turning" "_law_turning" s__law_turning f fd)
    {f__law_grid : Addr} {fd__law_grid : FuncData} (F__law_grid : Fun K "_law_grid" "_law_grid" s__law_grid f__law_grid fd__law_grid)
    (G__law_grid : FnOk P w K mg base CX0 3 f__law_grid fd__law_grid ["_law_hand_here", "_law_scale_here", "_law_many"] (SpH K preGrid psiGrid))
    (g__law_grid : mg "_law_grid" = some (.ref f__law_grid))
    {f__law_leads : Addr} {fd__law_leads : FuncData} (F__law_leads : Fun K "_law_leads" "_law_leads" s__law_leads f__law_leads fd__law_leads)
    (G__law_leads : FnOk P w K mg base CX0 3 f__law_leads fd__law_leads ["_law_hand_here", "_law_hues"] (SpH K preLd psiLd))
    (g__law_leads : mg "_law_leads" = some (.ref f__law_leads))
    (m_len : mg "len" = none) :
    FnOk P w K mg base CX0 4 f fd ["_law_hand_here", "_law_scale_here", "_law_hues"] (SpH K preTg psiTg) := by
  refine F.ok sc__law_turning (fun vs H Q E h => ?len) (fun cdv A outer s H vs Q E hr h => ⟨_, (pss_one (ps_ret (pe_tupC (pa_cons (pe_call G__law_leads (hr.mono (by decide)) (by rfl) g__law_leads F__law_leads.kp (bi__law_leads F__law_leads) .nil pass0 (pa_cons (pv 0) (pa_cons (pv 2) pa_nil))) (pa_cons (pe_call G__law_grid (hr.mono (by decide)) (by rfl) g__law_grid F__law_grid.kp (bi__law_grid F__law_grid) .nil pass0 (pa_cons (pv 0) (pa_cons (pv 1) (pa_cons (pe_callB (show CallR _ _ (rLenQ K) from call_len_seq) (by rfl) m_len (by decide +kernel) (pa_cons (pv 2) pa_nil)) pa_nil)))) pa_nil))))), ?r⟩)
  case len =>
    obtain ⟨l, ws, B, ds, m, rfl, _, _, _, is, ⟨_, ms, hs, rfl, _⟩, _⟩ := h
    show ws.length + 1 = 3
    rw [is.length]; rfl
  case r =>
    refine body_H h fun ad ds m hp hl => ?_
    obtain ⟨hm, ms, hs, rfl, hM, hn⟩ := hp
    walk_at "body"
    walk_at "ev"
    refine g_leads (by omega) hn fun m2 L q2 hL => ?_
    walk_at "ev"
    rw [dints_length]
    refine g_grid (by omega) hM hn fun m3 T q3 hT => ?_
    walk_at "ev"
    exact ⟨by omega, ms, hs, (L, T), rfl, rfl, hL, hT⟩

theorem ok_Frame_init {f : Addr} {fd : FuncData} (F : Fun K "__init__" "Frame.__init__" s_Frame_init f fd)
    {f_is_measure : Addr} {fd_is_measure : FuncData} (F_is_measure : Fun K "is_measure" "is_measure" s_is_measure f_is_measure fd_is_measure)
    (G_is_measure : FnOk P w K mg base CX0 3 f_is_measure fd_is_measure ["thing"] (SpP K preMeas fMeas))
    (g_is_measure : mg "is_measure" = some (.ref f_is_measure))
    {f_are_hues : Addr} {fd_are_hues : FuncData} (F_are_hues : Fun K "are_hues" "are_hues" s_are_hues f_are_hues fd_are_hues)
    (G_are_hues : FnOk P w K mg base CX0 4 f_are_hues fd_are_hues ["thing"] (SpP K preMeas fHues))
    (g_are_hues : mg "are_hues" = some (.ref f_are_hues))
    (k_Frame : Own2 K cFrame "measure" "hues") :
    FnOk P w K mg base CX0 5 f fd ["self", "measure", "hues"] (SpI K cFrame "measure" "hues" preFrame) := by
  refine F.ok sc_Frame_init (fun vs H Q E h => ?len) (fun cdv A outer s H vs Q E hr h => ⟨_, (pss_cons (ps_if (pt_not (pt_val (pe_call G_is_measure (hr.mono (by decide)) (by rfl) g_is_measure F_is_measure.kp (bi_is_measure F_is_measure) .nil pass0 (pa_cons (pv 1) pa_nil)))) (pss_one ps_never) pss_nil)
      (pss_cons (ps_if (pt_not (pt_val (pe_call G_are_hues (hr.mono (by decide)) (by rfl) g_are_hues F_are_hues.kp (bi_are_hues F_are_hues) .nil pass0 (pa_cons (pv 2) pa_nil)))) (pss_one ps_never) pss_nil)
      (pss_cons (ps_fldK (K := K) rfl (pv 0) (pv 1) rfl)
      (pss_one (ps_fldK (K := K) rfl (pv 0) (pv 2) rfl))))), ?r⟩)
  case len =>
    obtain ⟨x, dx, B, v1, v2, d1, d2, rfl, _⟩ := h
    rfl
  case r =>
    refine body_I rfl k_Frame (by decide) h fun d1 d2 hp => ?_
    obtain ⟨ms, hs, e, hm, hh⟩ := hp
    cases e
    refine ⟨?_, fun n => ?_⟩
    · refine t_not (t_B ?_)
      walk_at "ev"
      refine ⟨⟨_, rfl, plain_ints ms⟩, _, rfl, ?_⟩
      rw [meas_of hm]; rfl
    · refine t_not (t_B ?_)
      walk_at "ev"
      refine ⟨⟨_, rfl, plain_ints hs⟩, _, rfl, ?_⟩
      rw [hues_of hh]; rfl

theorem ok_refuse_no_coarser {f : Addr} {fd : FuncData} (F : Fun K "refuse_no_coarser" "refuse_no_coarser" s_refuse_no_coarser f fd)
    {f_is_coarser : Addr} {fd_is_coarser : FuncData} (F_is_coarser : Fun K "is_coarser" "is_coarser" s_is_coarser f_is_coarser fd_is_coarser)
    (G_is_coarser : FnOk P w K mg base CX0 4 f_is_coarser fd_is_coarser ["measure", "thing"] (SpP K preIc51 fIc51))
    (g_is_coarser : mg "is_coarser" = some (.ref f_is_coarser))
    (k_Frame : Own2 K cFrame "measure" "hues")
    (x_NoMeasure : We.Ex P K mg cNoMeasure "thing")
    (g_NoMeasure : mg "NoMeasure" = some (.ref cNoMeasure)) :
    FnOk P w K mg base (L2.CX P w) 5 f fd ["frame", "measure"] (SpE K (preRn51 cFrame) (rRn51 cNoMeasure)) := by
  refine okE F sc_refuse_no_coarser (fun vs H Q E h => ?len) (fun cdv A outer s H vs Q E hr h => ⟨_, (pss_one (ps_if (pt_not (pt_val (pe_call G_is_coarser (hr.mono (by decide)) (by rfl) g_is_coarser F_is_coarser.kp (bi_is_coarser F_is_coarser) .nil pass0 (pa_cons (pe_fldK (K := K) rfl (pv 0) rfl) (pa_cons (pv 1) pa_nil))))) (pss_one (ps_raise rfl (takes_of rfl rfl rfl rfl) (pmk_ex x_NoMeasure hr (by rfl) g_NoMeasure (pv 1)))) pss_nil)), ?r⟩)
  case len =>
    obtain ⟨B, ds, _, is, ⟨ms, hs, d, rfl, _⟩, _⟩ := h
    exact is.length
  case r =>
    refine body_E h fun ds hp hl => ?_
    obtain ⟨ms, hs, d, rfl, hQ, hpl⟩ := hp
    have hO := fun o => rRn51_is cFrame cNoMeasure ms hs d o
    walk_at "body"
    refine sx_if ?_
    walk_at "ev"
    refine ⟨⟨ms, d, rfl, hQ, hpl⟩, ?_⟩
    rw [fIc51_is]
    by_cases hc : CoP51 ms d
    · rw [cB_true hc]
      walk_at "ev"
      exact sx_of (s_next ((hO _).mpr (.inl ⟨hc, rfl⟩)))
    · rw [cB_false hc]
      refine ⟨_, rfl, ?_⟩
      rw [Bool.not_false, if_pos rfl]
      refine sx_raise ?_
      walk_at "ev"
      exact (hO _).mpr (.inr ⟨hc, rfl⟩)

theorem ok_coarser_place {f : Addr} {fd : FuncData} (F : Fun K "coarser_place" "coarser_place" s_coarser_place f fd)
    {f_refuse_no_coarser : Addr} {fd_refuse_no_coarser : FuncData} (F_refuse_no_coarser : Fun K "refuse_no_coarser" "refuse_no_coarser" s_refuse_no_coarser f_refuse_no_coarser fd_refuse_no_coarser)
    (G_refuse_no_coarser : FnOk P w K mg base (L2.CX P w) 5 f_refuse_no_coarser fd_refuse_no_coarser ["frame", "measure"] (SpE K (preRn51 cFrame) (rRn51 cNoMeasure)))
    (g_refuse_no_coarser : mg "refuse_no_coarser" = some (.ref f_refuse_no_coarser))
    {f_rests : Addr} {fd_rests : FuncData} (F_rests : Fun K "rests" "rests" s_rests f_rests fd_rests)
    (G_rests : FnOk P w K mg base CX0 1 f_rests fd_rests ["measure", "ties"] (SpP K preRs82 fRs82))
    (g_rests : mg "rests" = some (.ref f_rests)) :
    FnOk P w K mg base (L2.CX P w) 6 f fd ["frame", "measure", "place"] (SpE K (preCp51 cFrame) (rCp51 cNoMeasure)) := by
  refine okE F sc_coarser_place (fun vs H Q E h => ?len) (fun cdv A outer s H vs Q E hr h => ⟨_, (pss_cons (ps_expr (pe_callX G_refuse_no_coarser (hr.mono (by decide)) (by rfl) g_refuse_no_coarser F_refuse_no_coarser.kp (bi_refuse_no_coarser F_refuse_no_coarser) .nil (takes_of rfl rfl rfl rfl) (pa_cons (pv 0) (pa_cons (pv 1) pa_nil))))
      (pss_cons (ps_asg (pv 2) (pg_tup rfl (pgs_cons (pg_name (i := 3) sc_coarser_place.nd rfl (by first | exact Or.inl rfl | exact Or.inr rfl)) (pgs_cons (pg_name (i := 4) sc_coarser_place.nd rfl (by first | exact Or.inl rfl | exact Or.inr rfl)) pgs_nil))))
      (pss_one (ps_ret (pe_tupC (pa_cons (pv 3) (pa_cons (pe_call G_rests (hr.mono (by decide)) (by rfl) g_rests F_rests.kp (bi_rests F_rests) .nil pass0 (pa_cons (pv 1) (pa_cons (pv 4) pa_nil))) pa_nil))))))), ?r⟩)
  case len =>
    obtain ⟨B, ds, _, is, ⟨ms, hs, d, p, rfl, _⟩, _⟩ := h
    exact is.length
  case r =>
    refine body_E h fun ds hp hl => ?_
    obtain ⟨ms, hs, d, p, rfl, hQ, hpl, h16, hP⟩ := hp
    have hO := fun o => rCp51_is cFrame cNoMeasure ms hs d p o
    have hR := fun o => rRn51_is cFrame cNoMeasure ms hs d o
    walk_at "body"
    refine sx_seq (sx_drop (ex_call ?_))
    walk_at "ev"
    refine ⟨⟨ms, hs, d, rfl, hQ, hpl⟩, fun d2 hd => ?_, fun C f d2 hd => ?_⟩
    · rcases (hR _).mp hd with ⟨⟨is, rfl, hc⟩, _⟩ | ⟨_, e⟩
      · refine sx_of ?_
        walk_at "ev"
        refine ⟨⟨is, p.2, rfl, hc.i.1, by rw [hP.len]; omega, fun t ht => ⟨by rw [(hP.tie t ht).1, hc.z.len], (hP.tie t ht).bd hc.m.1⟩⟩, ?_⟩
        rw [fRs82_is]
        walk_at "ev"
        exact (hO _).mpr (.inl ⟨is, rfl, hc, rfl⟩)
      · cases e
    · rcases (hR _).mp hd with ⟨_, e⟩ | ⟨hn, e⟩
      · cases e
      · exact (hO _).mpr (.inr ⟨hn, e⟩)

theorem ok_coarser_table {f : Addr} {fd : FuncData} (F : Fun K "coarser_table" "coarser_table" s_coarser_table f fd)
    {f_refuse_no_coarser : Addr} {fd_refuse_no_coarser : FuncData} (F_refuse_no_coarser : Fun K "refuse_no_coarser" "refuse_no_coarser" s_refuse_no_coarser f_refuse_no_coarser fd_refuse_no_coarser)
    (G_refuse_no_coarser : FnOk P w K mg base (L2.CX P w) 5 f_refuse_no_coarser fd_refuse_no_coarser ["frame", "measure"] (SpE K (preRn51 cFrame) (rRn51 cNoMeasure)))
    (g_refuse_no_coarser : mg "refuse_no_coarser" = some (.ref f_refuse_no_coarser))
    {f_rests : Addr} {fd_rests : FuncData} (F_rests : Fun K "rests" "rests" s_rests f_rests fd_rests)
    (G_rests : FnOk P w K mg base CX0 1 f_rests fd_rests ["measure", "ties"] (SpP K preRs82 fRs82))
    (g_rests : mg "rests" = some (.ref f_rests))
    (m_tuple : mg "tuple" = none) :
    FnOk P w K mg base (L2.CX P w) 6 f fd ["frame", "measure", "table"] (SpE K (preCt51 cFrame) (rCt51 cNoMeasure)) := by
  refine okE F sc_coarser_table (fun vs H Q E h => ?len) (fun cdv A outer s H vs Q E hr h => ⟨_, (pss_cons (ps_expr (pe_callX G_refuse_no_coarser (hr.mono (by decide)) (by rfl) g_refuse_no_coarser F_refuse_no_coarser.kp (bi_refuse_no_coarser F_refuse_no_coarser) .nil (takes_of rfl rfl rfl rfl) (pa_cons (pv 0) (pa_cons (pv 1) pa_nil))))
      (pss_one (ps_ret (pe_callTy (show CallR _ _ (rTupC K) from call_tupC) (by rfl) m_tuple (by decide +kernel) (pa_cons (pe_lc (own := [("row", 3)]) (g := gName 3) (tt := tYes) rfl sc_coarser_table.nd (pi_tup (pv 2)) (blkOk_by (own := [("row", 3)]) (N := ["frame", "measure", "table", "row"]) (sc := defScope s_coarser_table) (by decide +kernel)) (fun _ _ _ _ _ => (pg_name (i := 3) sc_coarser_table.nd rfl (by first | exact Or.inl rfl | exact Or.inr rfl))) (fun _ _ _ _ _ => pts_nil) (fun _ _ _ _ _ => (pe_call G_rests (hr.mono (by decide)) (by rfl) g_rests F_rests.kp (bi_rests F_rests) .nil pass0 (pa_cons (pv 1) (pa_cons (pv 3) pa_nil))))) pa_nil))))), ?r⟩)
  case len =>
    obtain ⟨B, ds, _, is, ⟨ms, hs, d, T, rfl, _⟩, _⟩ := h
    exact is.length
  case r =>
    refine body_E h fun ds hp hl => ?_
    obtain ⟨ms, hs, d, T, rfl, hQ, hpl, h16, hT⟩ := hp
    have hO := fun o => rCt51_is cFrame cNoMeasure ms hs d T o
    have hR := fun o => rRn51_is cFrame cNoMeasure ms hs d o
    walk_at "body"
    refine sx_seq (sx_drop (ex_call ?_))
    walk_at "ev"
    refine ⟨⟨ms, hs, d, rfl, hQ, hpl⟩, fun d2 hd => ?_, fun C f d2 hd => ?_⟩
    · rcases (hR _).mp hd with ⟨⟨is, rfl, hc⟩, _⟩ | ⟨_, e⟩
      · refine sx_of ?_
        walk_at "ev"
        refine e_lcTf rfl ?_
        walk_at "ev"
        refine ⟨List (List Int), T, dsays, fun r => dsays (restS is r), rfl, by rw [hT.1]; omega, fun i r hr => ?_, ?_⟩
        · obtain ⟨h1, h2⟩ := hT.2 i r hr
          have hi := (List.getElem?_eq_some_iff.mp hr).1
          rw [hT.1] at hi
          walk_at "ev"
          refine ⟨⟨is, r, rfl, hc.i.1, by omega, fun t ht => ⟨by rw [(h2 t ht).1, hc.z.len], (h2 t ht).bd hc.m.1⟩⟩, ?_⟩
          rw [fRs82_is]
          exact ⟨rfl, rfl⟩
        walk_at "ev"
        refine (hO _).mpr (.inl ⟨is, rfl, hc, ?_⟩)
        show Out.ret (D.tup _) = Out.ret (D.tup _)
        unfold restTab
        rw [List.map_map]
        rfl
      · cases e
    · rcases (hR _).mp hd with ⟨_, e⟩ | ⟨hn, e⟩
      · cases e
      · exact (hO _).mpr (.inr ⟨hn, e⟩)

theorem ok_coarser_frame {f : Addr} {fd : FuncData} (F : Fun K "coarser_frame" "coarser_frame" s_coarser_frame f fd)
    {f_Frame_init : Addr} {fd_Frame_init : FuncData} (F_Frame_init : Fun K "__init__" "Frame.__init__" s_Frame_init f_Frame_init fd_Frame_init)
    (G_Frame_init : FnOk P w K mg base CX0 5 f_Frame_init fd_Frame_init ["self", "measure", "hues"] (SpI K cFrame "measure" "hues" preFrame))
    {f_refuse_no_coarser : Addr} {fd_refuse_no_coarser : FuncData} (F_refuse_no_coarser : Fun K "refuse_no_coarser" "refuse_no_coarser" s_refuse_no_coarser f_refuse_no_coarser fd_refuse_no_coarser)
    (G_refuse_no_coarser : FnOk P w K mg base (L2.CX P w) 5 f_refuse_no_coarser fd_refuse_no_coarser ["frame", "measure"] (SpE K (preRn51 cFrame) (rRn51 cNoMeasure)))
    (g_refuse_no_coarser : mg "refuse_no_coarser" = some (.ref f_refuse_no_coarser))
    (M_Frame : Mk K cFrame f_Frame_init) (g_Frame : mg "Frame" = some (.ref cFrame))
    (k_Frame : Own2 K cFrame "measure" "hues") :
    FnOk P w K mg base (L2.CX P w) 7 f fd ["frame", "measure"] (SpE K (preCf51 cFrame) (rCf51 cNoMeasure)) := by
  refine okE F sc_coarser_frame (fun vs H Q E h => ?len) (fun cdv A outer s H vs Q E hr h => ⟨_, (pss_cons (ps_expr (pe_callX G_refuse_no_coarser (hr.mono (by decide)) (by rfl) g_refuse_no_coarser F_refuse_no_coarser.kp (bi_refuse_no_coarser F_refuse_no_coarser) .nil (takes_of rfl rfl rfl rfl) (pa_cons (pv 0) (pa_cons (pv 1) pa_nil))))
      (pss_one (ps_ret (pe_make M_Frame G_Frame_init (hr.mono (by decide)) (by rfl) g_Frame (bi_Frame_init F_Frame_init) .nil pass0 (pa_cons (pv 1) (pa_cons (pe_fldK (K := K) rfl (pv 0) rfl) pa_nil)))))), ?r⟩)
  case len =>
    obtain ⟨B, ds, _, is, ⟨ms, hs, d, rfl, _⟩, _⟩ := h
    exact is.length
  case r =>
    refine body_E h fun ds hp hl => ?_
    obtain ⟨ms, hs, d, rfl, hQ, hpl, hH⟩ := hp
    have hO := fun o => rCf51_is cFrame cNoMeasure ms hs d o
    have hR := fun o => rRn51_is cFrame cNoMeasure ms hs d o
    walk_at "body"
    refine sx_seq (sx_drop (ex_call ?_))
    walk_at "ev"
    refine ⟨⟨ms, hs, d, rfl, hQ, hpl⟩, fun d2 hd => ?_, fun C f d2 hd => ?_⟩
    · rcases (hR _).mp hd with ⟨⟨is, rfl, hc⟩, _⟩ | ⟨_, e⟩
      · refine sx_of ?_
        walk_at "ev"
        exact ⟨⟨is, hs, rfl, hc.i, hH⟩, (hO _).mpr (.inl ⟨is, rfl, hc, rfl⟩)⟩
      · cases e
    · rcases (hR _).mp hd with ⟨_, e⟩ | ⟨hn, e⟩
      · cases e
      · exact (hO _).mpr (.inr ⟨hn, e⟩)

theorem ok_coarser_turning {f : Addr} {fd : FuncData} (F : Fun K "coarser_turning" "coarser_turning" s_coarser_turning f fd)
    {f_coarser_table : Addr} {fd_coarser_table : FuncData} (F_coarser_table : Fun K "coarser_table" "coarser_table" s_coarser_table f_coarser_table fd_coarser_table)
    (G_coarser_table : FnOk P w K mg base (L2.CX P w) 6 f_coarser_table fd_coarser_table ["frame", "measure", "table"] (SpE K (preCt51 cFrame) (rCt51 cNoMeasure)))
    (g_coarser_table : mg "coarser_table" = some (.ref f_coarser_table)) :
    FnOk P w K mg base (L2.CX P w) 7 f fd ["frame", "measure", "turning"] (SpE K (preCu51 cFrame) (rCu51 cNoMeasure)) := by
  refine okE F sc_coarser_turning (fun vs H Q E h => ?len) (fun cdv A outer s H vs Q E hr h => ⟨_, (pss_cons (ps_asg (pv 2) (pg_tup rfl (pgs_cons (pg_name (i := 3) sc_coarser_turning.nd rfl (by first | exact Or.inl rfl | exact Or.inr rfl)) (pgs_cons (pg_name (i := 4) sc_coarser_turning.nd rfl (by first | exact Or.inl rfl | exact Or.inr rfl)) pgs_nil))))
      (pss_one (ps_ret (pe_tupC (pa_cons (pv 3) (pa_cons (pe_callX G_coarser_table (hr.mono (by decide)) (by rfl) g_coarser_table F_coarser_table.kp (bi_coarser_table F_coarser_table) .nil (takes_of rfl rfl rfl rfl) (pa_cons (pv 0) (pa_cons (pv 1) (pa_cons (pv 4) pa_nil)))) pa_nil)))))), ?r⟩)
  case len =>
    obtain ⟨B, ds, _, is, ⟨ms, hs, d, t, rfl, _⟩, _⟩ := h
    exact is.length
  case r =>
    refine body_E h fun ds hp hl => ?_
    obtain ⟨ms, hs, d, t, rfl, hQ, hpl, h16, ht⟩ := hp
    have hO := fun o => rCu51_is cFrame cNoMeasure ms hs d t o
    have hR := fun o => rCt51_is cFrame cNoMeasure ms hs d t.2 o
    walk_at "body"
    refine sx_seq (sx_of ?_)
    walk_at "ev"
    walk_at "ro"
    refine sx_ret (ex_tup (ax_cons (ex_of ?_)))
    walk_at "ev"
    refine ax_cons (ex_call ?_)
    walk_at "ev"
    refine ⟨⟨ms, hs, d, t.2, rfl, hQ, hpl, h16, ht.tab⟩, fun d2 hd => ?_, fun C f d2 hd => ?_⟩
    · rcases (hR _).mp hd with ⟨is, rfl, hc, e⟩ | ⟨_, e⟩
      · cases e
        exact ax_of (a_nil ⟨by simp, (hO _).mpr (.inl ⟨is, rfl, hc, rfl⟩)⟩)
      · cases e
    · rcases (hR _).mp hd with ⟨_, _, _, e⟩ | ⟨hn, e⟩
      · cases e
      · exact (hO _).mpr (.inr ⟨hn, e⟩)

theorem ok__law_doors_right {f : Addr} {fd : FuncData} (F : Fun K "_law_doors_right" "_law_doors_right" s__law_doors_right f fd)
    {f_Frame_init : Addr} {fd_Frame_init : FuncData} (F_Frame_init : Fun K "__init__" "Frame.__init__" s_Frame_init f_Frame_init fd_Frame_init)
    (G_Frame_init : FnOk P w K mg base CX0 5 f_Frame_init fd_Frame_init ["self", "measure", "hues"] (SpI K cFrame "measure" "hues" preFrame))
    {f_Frame_eq : Addr} {fd_Frame_eq : FuncData} (F_Frame_eq : Fun K "__eq__" "Frame.__eq__" s_Frame_eq f_Frame_eq fd_Frame_eq)
    (G_Frame_eq : FnOk P w K mg base CX0 1 f_Frame_eq fd_Frame_eq ["self", "other"] (SpP K (preFe49 cFrame) fFe49))
    {f_coarser_frame : Addr} {fd_coarser_frame : FuncData} (F_coarser_frame : Fun K "coarser_frame" "coarser_frame" s_coarser_frame f_coarser_frame fd_coarser_frame)
    (G_coarser_frame : FnOk P w K mg base (L2.CX P w) 7 f_coarser_frame fd_coarser_frame ["frame", "measure"] (SpE K (preCf51 cFrame) (rCf51 cNoMeasure)))
    (g_coarser_frame : mg "coarser_frame" = some (.ref f_coarser_frame))
    {f_coarser_place : Addr} {fd_coarser_place : FuncData} (F_coarser_place : Fun K "coarser_place" "coarser_place" s_coarser_place f_coarser_place fd_coarser_place)
    (G_coarser_place : FnOk P w K mg base (L2.CX P w) 6 f_coarser_place fd_coarser_place ["frame", "measure", "place"] (SpE K (preCp51 cFrame) (rCp51 cNoMeasure)))
    (g_coarser_place : mg "coarser_place" = some (.ref f_coarser_place))
    {f_coarser_table : Addr} {fd_coarser_table : FuncData} (F_coarser_table : Fun K "coarser_table" "coarser_table" s_coarser_table f_coarser_table fd_coarser_table)
    (G_coarser_table : FnOk P w K mg base (L2.CX P w) 6 f_coarser_table fd_coarser_table ["frame", "measure", "table"] (SpE K (preCt51 cFrame) (rCt51 cNoMeasure)))
    (g_coarser_table : mg "coarser_table" = some (.ref f_coarser_table))
    {f_coarser_turning : Addr} {fd_coarser_turning : FuncData} (F_coarser_turning : Fun K "coarser_turning" "coarser_turning" s_coarser_turning f_coarser_turning fd_coarser_turning)
    (G_coarser_turning : FnOk P w K mg base (L2.CX P w) 7 f_coarser_turning fd_coarser_turning ["frame", "measure", "turning"] (SpE K (preCu51 cFrame) (rCu51 cNoMeasure)))
    (g_coarser_turning : mg "coarser_turning" = some (.ref f_coarser_turning))
    {f__law_take : Addr} {fd__law_take : FuncData} (F__law_take : Fun K "_law_take" "_law_take" s__law_take f__law_take fd__law_take)
    (G__law_take : FnOk P w K mg base CX0 1 f__law_take fd__law_take ["_law_hand_here", "_law_many"] (SpH K preTake psiTake))
    (g__law_take : mg "_law_take" = some (.ref f__law_take))
    {f__law_grid : Addr} {fd__law_grid : FuncData} (F__law_grid : Fun K "_law_grid" "_law_grid" s__law_grid f__law_grid fd__law_grid)
    (G__law_grid : FnOk P w K mg base CX0 3 f__law_grid fd__law_grid ["_law_hand_here", "_law_scale_here", "_law_many"] (SpH K preGrid psiGrid))
    (g__law_grid : mg "_law_grid" = some (.ref f__law_grid))
    {f__law_spot : Addr} {fd__law_spot : FuncData} (F__law_spot : Fun K "_law_spot" "_law_spot" s__law_spot f__law_spot fd__law_spot)
    (G__law_spot : FnOk P w K mg base CX0 3 f__law_spot fd__law_spot ["_law_hand_here", "_law_scale_here", "_law_many", "_law_at"] (SpH K preSpot psiSpot))
    (g__law_spot : mg "_law_spot" = some (.ref f__law_spot))
    {f__law_turning : Addr} {fd__law_turning : FuncData} (F__law_turning : Fun K "_law_turning" "_law_turning" s__law_turning f__law_turning fd__law_turning)
    (G__law_turning : FnOk P w K mg base CX0 4 f__law_turning fd__law_turning ["_law_hand_here", "_law_scale_here", "_law_hues"] (SpH K preTg psiTg))
    (g__law_turning : mg "_law_turning" = some (.ref f__law_turning))
    {f__law_due : Addr} {fd__law_due : FuncData} (F__law_due : Fun K "_law_due" "_law_due" s__law_due f__law_due fd__law_due)
    (G__law_due : FnOk P w K mg base CX0 3 f__law_due fd__law_due ["_law_scale_here", "_law_item"] (SpP K preIc51 fIc51))
    (g__law_due : mg "_law_due" = some (.ref f__law_due))
    {f__law_asked : Addr} {fd__law_asked : FuncData} (F__law_asked : Fun K "_law_asked" "_law_asked" s__law_asked f__law_asked fd__law_asked)
    (GV__law_asked : GivesX P w K mg base 1 "_law_asked" s__law_asked f__law_asked ["_law_ask", "e", "_law_told", "_law_caught"] "_law_ask" (SpL K (preAk51 cNoMeasure) (resAk51 cNoMeasure))) (g__law_asked : mg "_law_asked" = some (.ref f__law_asked))
    {f__law_lessened : Addr} {fd__law_lessened : FuncData} (F__law_lessened : Fun K "_law_lessened" "_law_lessened" s__law_lessened f__law_lessened fd__law_lessened)
    (G__law_lessened : FnOk P w K mg base CX0 1 f__law_lessened fd__law_lessened ["_law_item", "_law_part"] (SpP K preLs51 fLs82))
    (g__law_lessened : mg "_law_lessened" = some (.ref f__law_lessened))
    (M_Frame : Mk K cFrame f_Frame_init) (g_Frame : mg "Frame" = some (.ref cFrame))
    (k_Frame : Own2 K cFrame "measure" "hues")
    (e_Frame_eq : Meth K cFrame "__eq__" f_Frame_eq)
    (n_Frame : NeK K cFrame) (gn_Frame : mg "Frame" = some (.ref cFrame))
    (m_len : mg "len" = none)
    (m_repr : mg "repr" = none)
    (m_tuple : mg "tuple" = none)
    {cl_lam pt_lam : Addr} (hc_lam : fd.code = .ref cl_lam) (TB_lam : LamX.TabB base mg cl_lam pt_lam) (tm_lam : (pt_lam, (("_law_doors_right" : Str) ++ ".<locals>." ++ "<lambda>")) ∈ tabs) (tu_lam : ∀ p ∈ tabs, p.1 = pt_lam → p.2 = (("_law_doors_right" : Str) ++ ".<locals>." ++ "<lambda>")) :
    FnG P w K mg base CX0 10 f fd ["_law_hand_here", "_law_scale_here", "_law_hues", "_law_item"] (SpH K preDo51 psiDo51) := by
  refine okGL F hc_lam sc__law_doors_right (fun vs H Q E h => ?len) (fun A outer s H vs Q E hG hr h => ⟨_, (pss_cons (ps_asg (pe_tupC (pa_cons (pe_make M_Frame G_Frame_init (hr.mono (by decide)) (by rfl) g_Frame (bi_Frame_init F_Frame_init) .nil pass0 (pa_cons (pv 1) (pa_cons (pv 2) pa_nil))) (pa_cons (pe_callB (show CallR _ _ (rLenQ K) from call_len_seq) (by rfl) m_len (by decide +kernel) (pa_cons (pv 2) pa_nil)) pa_nil))) (pg_tup rfl (pgs_cons (pg_name (i := 7) sc__law_doors_right.nd rfl (by first | exact Or.inl rfl | exact Or.inr rfl)) (pgs_cons (pg_name (i := 8) sc__law_doors_right.nd rfl (by first | exact Or.inl rfl | exact Or.inr rfl)) pgs_nil))))
      (pss_cons (ps_asg (pe_tupC (pa_cons (pe_call G__law_spot (hr.mono (by decide)) (by rfl) g__law_spot F__law_spot.kp (bi__law_spot F__law_spot) .nil pass0 (pa_cons (pv 0) (pa_cons (pv 1) (pa_cons (pv 8) (pa_cons (pe_call G__law_take (hr.mono (by decide)) (by rfl) g__law_take F__law_take.kp (bi__law_take F__law_take) .nil pass0 (pa_cons (pv 0) (pa_cons (pv 8) pa_nil))) pa_nil))))) (pa_cons (pe_call G__law_grid (hr.mono (by decide)) (by rfl) g__law_grid F__law_grid.kp (bi__law_grid F__law_grid) .nil pass0 (pa_cons (pv 0) (pa_cons (pv 1) (pa_cons (pv 8) pa_nil)))) pa_nil))) (pg_tup rfl (pgs_cons (pg_name (i := 9) sc__law_doors_right.nd rfl (by first | exact Or.inl rfl | exact Or.inr rfl)) (pgs_cons (pg_name (i := 10) sc__law_doors_right.nd rfl (by first | exact Or.inl rfl | exact Or.inr rfl)) pgs_nil))))
      (pss_cons (ps_asg (pe_tupC (pa_cons (pe_call G__law_turning (hr.mono (by decide)) (by rfl) g__law_turning F__law_turning.kp (bi__law_turning F__law_turning) .nil pass0 (pa_cons (pv 0) (pa_cons (pv 1) (pa_cons (pv 2) pa_nil)))) (pa_cons (pe_callB (show CallR _ _ (rRepr K) from call_reprD hG hr) (by rfl) m_repr (by decide +kernel) (pa_cons (pv 3) pa_nil)) pa_nil))) (pg_tup rfl (pgs_cons (pg_name (i := 11) sc__law_doors_right.nd rfl (by first | exact Or.inl rfl | exact Or.inr rfl)) (pgs_cons (pg_name (i := 12) sc__law_doors_right.nd rfl (by first | exact Or.inl rfl | exact Or.inr rfl)) pgs_nil))))
      (pss_cons (ps_set (i := 4) sc__law_doors_right.nd rfl (by first | exact Or.inl rfl | exact Or.inr rfl) (pe_lst (pa_cons (pe_lamX (k := 7) (by rfl) g__law_asked F__law_asked (bi__law_asked F__law_asked) sc__law_asked rfl (by first | exact .inl rfl | exact .inr (.inl rfl)) (GV__law_asked.mono (by decide)) hG TB_lam rfl (hr.mono (by decide)) (show LamX.LamS (defScope s__law_doors_right) _ from LamX.lamS_by (by decide +kernel)) rfl (fun _ _ _ _ _ => rfl) (fun _ _ _ _ E _ _ hr => (pe_callX G_coarser_place (hr.mono (by decide)) (by rfl) g_coarser_place F_coarser_place.kp (bi_coarser_place F_coarser_place) .nil (takes_of rfl rfl rfl rfl) (pa_cons (pv 7) (pa_cons (pv 3) (pa_cons (pv 9) pa_nil)))))) pa_nil)))
      (pss_cons (ps_expr (pe_bm PySem.F.plainAttrs_list PySem.F.slot_list_append PySem.F.type_list_append mt_append (pv 4) (pa_cons (pe_lamX (k := 7) (by rfl) g__law_asked F__law_asked (bi__law_asked F__law_asked) sc__law_asked rfl (by first | exact .inl rfl | exact .inr (.inl rfl)) (GV__law_asked.mono (by decide)) hG TB_lam rfl (hr.mono (by decide)) (show LamX.LamS (defScope s__law_doors_right) _ from LamX.lamS_by (by decide +kernel)) rfl (fun _ _ _ _ _ => rfl) (fun _ _ _ _ E _ _ hr => (pe_callX G_coarser_table (hr.mono (by decide)) (by rfl) g_coarser_table F_coarser_table.kp (bi_coarser_table F_coarser_table) .nil (takes_of rfl rfl rfl rfl) (pa_cons (pv 7) (pa_cons (pv 3) (pa_cons (pv 10) pa_nil)))))) pa_nil)))
      (pss_cons (ps_expr (pe_bm PySem.F.plainAttrs_list PySem.F.slot_list_append PySem.F.type_list_append mt_append (pv 4) (pa_cons (pe_lamX (k := 7) (by rfl) g__law_asked F__law_asked (bi__law_asked F__law_asked) sc__law_asked rfl (by first | exact .inl rfl | exact .inr (.inl rfl)) (GV__law_asked.mono (by decide)) hG TB_lam rfl (hr.mono (by decide)) (show LamX.LamS (defScope s__law_doors_right) _ from LamX.lamS_by (by decide +kernel)) rfl (fun _ _ _ _ _ => rfl) (fun _ _ _ _ E _ _ hr => (pe_callX G_coarser_turning (hr.mono (by decide)) (by rfl) g_coarser_turning F_coarser_turning.kp (bi_coarser_turning F_coarser_turning) .nil (takes_of rfl rfl rfl rfl) (pa_cons (pv 7) (pa_cons (pv 3) (pa_cons (pv 11) pa_nil)))))) pa_nil)))
      (pss_cons (ps_set (i := 5) sc__law_doors_right.nd rfl (by first | exact Or.inl rfl | exact Or.inr rfl) (pe_lamX (k := 7) (by rfl) g__law_asked F__law_asked (bi__law_asked F__law_asked) sc__law_asked rfl (by first | exact .inl rfl | exact .inr (.inl rfl)) (GV__law_asked.mono (by decide)) hG TB_lam rfl (hr.mono (by decide)) (show LamX.LamS (defScope s__law_doors_right) _ from LamX.lamS_by (by decide +kernel)) rfl (fun _ _ _ _ _ => rfl) (fun _ _ _ _ E _ _ hr => (pe_callX G_coarser_frame (hr.mono (by decide)) (by rfl) g_coarser_frame F_coarser_frame.kp (bi_coarser_frame F_coarser_frame) .nil (takes_of rfl rfl rfl rfl) (pa_cons (pv 7) (pa_cons (pv 3) pa_nil))))))
      (pss_cons (ps_if (pt_not (pt_val (pe_call G__law_due (hr.mono (by decide)) (by rfl) g__law_due F__law_due.kp (bi__law_due F__law_due) .nil pass0 (pa_cons (pv 1) (pa_cons (pv 3) pa_nil))))) (pss_one (ps_ret (pe_and (pe_cmpR op_eq (pe_callB (show CallR _ _ (rRepr K) from call_reprD hG hr) (by rfl) m_repr (by decide +kernel) (pa_cons (pe_lst (pa_cons (pv 4) (pa_cons (pv 5) pa_nil))) pa_nil)) (pe_callB (show CallR _ _ (rRepr K) from call_reprD hG hr) (by rfl) m_repr (by decide +kernel) (pa_cons (pe_lst (pa_cons (pe_op op_rep (pe_lst (pa_cons (pe_lst (pa_cons pe_str (pa_cons (pv 3) pa_nil))) pa_nil)) pe_int) (pa_cons (pe_lst (pa_cons pe_str (pa_cons (pv 3) pa_nil))) pa_nil))) pa_nil)) (nomark _)) (pe_one (pe_cmpR op_eq (pe_callB (show CallR _ _ (rRepr K) from call_reprD hG hr) (by rfl) m_repr (by decide +kernel) (pa_cons (pv 3) pa_nil)) (pv 12) (nomark _)))))) pss_nil)
      (pss_cons (ps_set (i := 6) sc__law_doors_right.nd rfl (by first | exact Or.inl rfl | exact Or.inr rfl) (pe_lst (pa_cons (pe_tupC (pa_cons (pe_ix (show IxR _ (rIxT K) from ix_tup) (pv 9) pe_int (fun _ _ => rfl)) (pa_cons (pe_callTy (show CallR _ _ (rTupC K) from call_tupC) (by rfl) m_tuple (by decide +kernel) (pa_cons (pe_lc (own := [("_law_knot_here", 14)]) (g := gName 14) (tt := tYes) rfl sc__law_doors_right.nd (pi_tup (pe_ix (show IxR _ (rIxT K) from ix_tup) (pv 9) pe_int (fun _ _ => rfl))) (blkOk_by (own := [("_law_knot_here", 14)]) (N := ["_law_hand_here", "_law_scale_here", "_law_hues", "_law_item", "_law_told", "_law_small", "_law_due_here", "_law_frame", "_law_many", "_law_spot_here", "_law_grid_here", "_law_turn", "_law_kept", "_law_line", "_law_knot_here"]) (sc := defScope s__law_doors_right) (by decide +kernel)) (fun _ _ _ _ _ => (pg_name (i := 14) sc__law_doors_right.nd rfl (by first | exact Or.inl rfl | exact Or.inr rfl))) (fun _ _ _ _ _ => pts_nil) (fun _ _ _ _ _ => (pe_call G__law_lessened (hr.mono (by decide)) (by rfl) g__law_lessened F__law_lessened.kp (bi__law_lessened F__law_lessened) .nil pass0 (pa_cons (pv 3) (pa_cons (pv 14) pa_nil))))) pa_nil)) pa_nil))) pa_nil)))
      (pss_cons (ps_expr (pe_bm PySem.F.plainAttrs_list PySem.F.slot_list_append PySem.F.type_list_append mt_append (pv 6) (pa_cons (pe_callTy (show CallR _ _ (rTupC K) from call_tupC) (by rfl) m_tuple (by decide +kernel) (pa_cons (pe_lc (own := [("_law_line", 13)]) (g := gName 13) (tt := tYes) rfl sc__law_doors_right.nd (pi_tup (pv 10)) (blkOk_by (own := [("_law_line", 13)]) (N := ["_law_hand_here", "_law_scale_here", "_law_hues", "_law_item", "_law_told", "_law_small", "_law_due_here", "_law_frame", "_law_many", "_law_spot_here", "_law_grid_here", "_law_turn", "_law_kept", "_law_line", "_law_knot_here"]) (sc := defScope s__law_doors_right) (by decide +kernel)) (fun _ _ _ _ _ => (pg_name (i := 13) sc__law_doors_right.nd rfl (by first | exact Or.inl rfl | exact Or.inr rfl))) (fun _ _ _ _ _ => pts_nil) (fun _ _ _ _ _ => (pe_callTy (show CallR _ _ (rTupC K) from call_tupC) (by rfl) m_tuple (by decide +kernel) (pa_cons (pe_lc (own := [("_law_knot_here", 14)]) (g := gName 14) (tt := tYes) rfl sc__law_doors_right.nd (show PI _ _ _ (iTup K _) from pi_tup (pv 13)) (blkOk_by (own := [("_law_knot_here", 14)]) (N := ["_law_hand_here", "_law_scale_here", "_law_hues", "_law_item", "_law_told", "_law_small", "_law_due_here", "_law_frame", "_law_many", "_law_spot_here", "_law_grid_here", "_law_turn", "_law_kept", "_law_line", "_law_knot_here"]) (by show blkC _ (relS _ (defScope s__law_doors_right)) _ _ = true; decide +kernel)) (fun _ _ _ _ _ => (pg_name (i := 14) sc__law_doors_right.nd rfl (by first | exact Or.inl rfl | exact Or.inr rfl))) (fun _ _ _ _ _ => pts_nil) (fun _ _ _ _ _ => (pe_call G__law_lessened (hr.mono (by decide)) (by rfl) g__law_lessened F__law_lessened.kp (bi__law_lessened F__law_lessened) .nil pass0 (pa_cons (pv 3) (pa_cons (pv 14) pa_nil))))) pa_nil)))) pa_nil)) pa_nil)))
      (pss_cons (ps_expr (pe_bm PySem.F.plainAttrs_list PySem.F.slot_list_append PySem.F.type_list_append mt_append (pv 6) (pa_cons (pe_tupC (pa_cons (pe_ix (show IxR _ (rIxT K) from ix_tup) (pv 11) pe_int (fun _ _ => rfl)) (pa_cons (pe_callTy (show CallR _ _ (rTupC K) from call_tupC) (by rfl) m_tuple (by decide +kernel) (pa_cons (pe_lc (own := [("_law_line", 13)]) (g := gName 13) (tt := tYes) rfl sc__law_doors_right.nd (pi_tup (pe_ix (show IxR _ (rIxT K) from ix_tup) (pv 11) pe_int (fun _ _ => rfl))) (blkOk_by (own := [("_law_line", 13)]) (N := ["_law_hand_here", "_law_scale_here", "_law_hues", "_law_item", "_law_told", "_law_small", "_law_due_here", "_law_frame", "_law_many", "_law_spot_here", "_law_grid_here", "_law_turn", "_law_kept", "_law_line", "_law_knot_here"]) (sc := defScope s__law_doors_right) (by decide +kernel)) (fun _ _ _ _ _ => (pg_name (i := 13) sc__law_doors_right.nd rfl (by first | exact Or.inl rfl | exact Or.inr rfl))) (fun _ _ _ _ _ => pts_nil) (fun _ _ _ _ _ => (pe_callTy (show CallR _ _ (rTupC K) from call_tupC) (by rfl) m_tuple (by decide +kernel) (pa_cons (pe_lc (own := [("_law_knot_here", 14)]) (g := gName 14) (tt := tYes) rfl sc__law_doors_right.nd (show PI _ _ _ (iTup K _) from pi_tup (pv 13)) (blkOk_by (own := [("_law_knot_here", 14)]) (N := ["_law_hand_here", "_law_scale_here", "_law_hues", "_law_item", "_law_told", "_law_small", "_law_due_here", "_law_frame", "_law_many", "_law_spot_here", "_law_grid_here", "_law_turn", "_law_kept", "_law_line", "_law_knot_here"]) (by show blkC _ (relS _ (defScope s__law_doors_right)) _ _ = true; decide +kernel)) (fun _ _ _ _ _ => (pg_name (i := 14) sc__law_doors_right.nd rfl (by first | exact Or.inl rfl | exact Or.inr rfl))) (fun _ _ _ _ _ => pts_nil) (fun _ _ _ _ _ => (pe_call G__law_lessened (hr.mono (by decide)) (by rfl) g__law_lessened F__law_lessened.kp (bi__law_lessened F__law_lessened) .nil pass0 (pa_cons (pv 3) (pa_cons (pv 14) pa_nil))))) pa_nil)))) pa_nil)) pa_nil))) pa_nil)))
      (pss_one (ps_ret (pe_and (pe_cmpR op_eq (pe_callB (show CallR _ _ (rRepr K) from call_reprD hG hr) (by rfl) m_repr (by decide +kernel) (pa_cons (pv 4) pa_nil)) (pe_callB (show CallR _ _ (rRepr K) from call_reprD hG hr) (by rfl) m_repr (by decide +kernel) (pa_cons (pv 6) pa_nil)) (nomark _)) (pe_and (pe_cmpR (show OpR _ _ (rEqIns cFrame (SpP K (preFe49 cFrame) fFe49) _) from op_eqIns G_Frame_eq e_Frame_eq.at_ e_Frame_eq.fn (bi_Frame_eq F_Frame_eq) pass0 (hr.mono (by decide))) (pv 5) (pe_make M_Frame G_Frame_init (hr.mono (by decide)) (by rfl) g_Frame (bi_Frame_init F_Frame_init) .nil pass0 (pa_cons (pv 3) (pa_cons (pv 2) pa_nil))) (nomark _)) (pe_one (pe_cmpR op_eq (pe_callB (show CallR _ _ (rRepr K) from call_reprD hG hr) (by rfl) m_repr (by decide +kernel) (pa_cons (pv 3) pa_nil)) (pv 12) (nomark _)))))))))))))))))), ?r⟩)
  case len =>
    obtain ⟨l, ws, B, ds, m, rfl, _, _, _, is, ⟨_, ms, hs, d, rfl, _⟩, _⟩ := h
    show ws.length + 1 = 4
    rw [is.length]; rfl
  case r =>
    refine body_H h fun ad ds m hp hl => ?_
    obtain ⟨hm, ms, hs, it, rfl, hMQ, hH, hF⟩ := hp
    have hM := hMQ.1
    have h16 := hH.2.1
    have h2 := hH.1
    have hpl := hF.plain
    walk_at "body"
    walk_at "ev"
    refine ⟨⟨ms, hs, rfl, hMQ, hH⟩, ?_⟩
    walk_at "ev"
    rw [dints_length]
    refine g_take (by omega) (by omega) (by omega) fun m1 a q1 ha => ?_
    walk_at "ev"
    refine g_spot (by omega) hM (by omega) (by omega) fun m2 S q2 hS => ?_
    walk_at "ev"
    refine g_grid (by omega) hM h16 fun m3 T q3 hT => ?_
    walk_at "ev"
    refine g_turning (by omega) hM h16 fun m4 t q4 ht => ?_
    have hsi : Shows it := by
      obtain ⟨b, k, w, h, hb, hb2, hk, hw⟩ := hF
      exact h.itm.show (by omega) (by omega)
    repeat (first | refine s_seq (s_ownL ?_) | walk_at "ev1")
    have hp1 : preCp51 cFrame [frD cFrame ms hs, it, dspot (a, S)] := ⟨ms, hs, it, (a, S), rfl, hMQ, hpl, h16, hS⟩
    have hp2 : preCt51 cFrame [frD cFrame ms hs, it, dtab T] := ⟨ms, hs, it, T, rfl, hMQ, hpl, h16, hT⟩
    have hp3 : preCu51 cFrame [frD cFrame ms hs, it, dturn t] := ⟨ms, hs, it, t, rfl, hMQ, hpl, h16, ht⟩
    have hp4 : preCf51 cFrame [frD cFrame ms hs, it] := ⟨ms, hs, it, rfl, hMQ, hpl, hH⟩
    refine e_lamX (R := DoO51 cNoMeasure ms it fun is => dspot (restSp is (a, S))) tm_lam tu_lam (doO_pre51 fun _ h => h) (fun E => ?_) fun r1 hr1 => ?_
    · refine ex_call ?_
      dsimp only [datOnly, List.map]
      walk_at "ev"
      exact ⟨hp1, fun d hd => (rCp51_is cFrame cNoMeasure ms hs it (a, S) _).mp hd, fun C f d hd => (rCp51_is cFrame cNoMeasure ms hs it (a, S) _).mp hd⟩
    refine a_nil ⟨by simp, ?_⟩
    refine s_seq (s_app (i := 4) rfl (by simp) (e_lamX (R := DoO51 cNoMeasure ms it fun is => dtab (restTab is T)) tm_lam tu_lam (doO_pre51 fun _ h => h) (fun E => ?_) fun r2 hr2 => ?_))
    · refine ex_call ?_
      dsimp only [datOnly, List.map]
      walk_at "ev"
      exact ⟨hp2, fun d hd => (rCt51_is cFrame cNoMeasure ms hs it T _).mp hd, fun C f d hd => (rCt51_is cFrame cNoMeasure ms hs it T _).mp hd⟩
    refine s_seq (s_app (i := 4) rfl (by simp) (e_lamX (R := DoO51 cNoMeasure ms it fun is => dturn (restTu is t)) tm_lam tu_lam (doO_pre51 fun _ h => h) (fun E => ?_) fun r3 hr3 => ?_))
    · refine ex_call ?_
      dsimp only [datOnly, List.map]
      walk_at "ev"
      exact ⟨hp3, fun d hd => (rCu51_is cFrame cNoMeasure ms hs it t _).mp hd, fun C f d hd => (rCu51_is cFrame cNoMeasure ms hs it t _).mp hd⟩
    refine s_seq (s_asg (e_lamX (R := DoO51 cNoMeasure ms it fun is => frD cFrame is hs) tm_lam tu_lam (doO_pre51 fun _ h => h) (fun E => ?_) fun r4 hr4 => ?_))
    · refine ex_call ?_
      dsimp only [datOnly, List.map]
      walk_at "ev"
      exact ⟨hp4, fun d hd => (rCf51_is cFrame cNoMeasure ms hs it _).mp hd, fun C f d hd => (rCf51_is cFrame cNoMeasure ms hs it _).mp hd⟩
    refine s_freeze (i := 4) rfl ?_
    walk_at "ev"
    refine ⟨⟨ms, it, rfl, hMQ, hpl⟩, ?_⟩
    rw [fIc51_is]
    by_cases hc : CoP51 ms it
    · obtain ⟨is, rfl, hC⟩ := hc
      obtain rfl := doO_yes51 (fun _ h => h) hr1 rfl hC
      obtain rfl := doO_yes51 (fun _ h => h) hr2 rfl hC
      obtain rfl := doO_yes51 (fun _ h => h) hr3 rfl hC
      obtain rfl := doO_yes51 (fun _ h => h) hr4 rfl hC
      have hsy := shows_yes51 (p := (a, S)) hC h16 hS hT ht
      refine ⟨_, rfl, ?_⟩
      rw [cB_true ⟨is, rfl, hC⟩, Bool.not_true, if_neg Bool.false_ne_true]
      walk_at "ro"
      refine s_next ?_
      have les : ∀ x : List Int, TieP ms x → preLs51 [.tup (dints is), .tup (dints x)] := fun x hx => ⟨is, x, rfl, hC.i.1, by rw [hx.1, hC.z.len], hx.bd hC.m.1⟩
      repeat (first | refine s_seq (s_ownL ?_) | walk_at "ev1")
      refine e_lcTf rfl ?_
      walk_at "ev"
      refine ⟨List Int, S, fun t => .tup (dints t), fun t => .tup (dints (restT is t)), rfl, by rw [hS.len]; omega, fun i t ht => ?_, ?_⟩
      · walk_at "ev"
        refine ⟨les t (hS.tie t (List.mem_of_getElem? ht)), ?_⟩
        rw [fLs82_is]
        exact ⟨rfl, rfl⟩
      repeat (first | refine s_seq (s_ownL ?_) | walk_at "ev1")
      have eT : ∀ T : List (List (List Int)), D.tup (T.map fun r => D.tup (r.map fun t => D.tup (dints (restT is t)))) = dtab (restTab is T) := fun T => by
        show D.tup _ = D.tup _
        unfold restTab
        rw [List.map_map]
        refine congrArg D.tup (List.map_congr_left fun r _ => ?_)
        show D.tup _ = D.tup _
        rw [restS, List.map_map]
        rfl
      have eS : D.tup (S.map fun t => D.tup (dints (restT is t))) = dsays (restS is S) := by
        show D.tup _ = D.tup _
        rw [restS, List.map_map]
        rfl
      rw [eS]
      refine s_app (i := 6) rfl (by simp) ?_
      walk_at "ev"
      refine e_lcTf rfl ?_
      walk_at "ev"
      refine ⟨List (List Int), T, dsays, fun r => .tup (r.map fun t => D.tup (dints (restT is t))), rfl, by rw [hT.1]; omega, fun i r hr => ?_, ?_⟩
      · obtain ⟨h1r, h2r⟩ := hT.2 i r hr
        have hir := (List.getElem?_eq_some_iff.mp hr).1
        rw [hT.1] at hir
        walk_at "ev"
        refine e_lcTf rfl ?_
        walk_at "ev"
        refine ⟨List Int, r, fun t => .tup (dints t), fun t => .tup (dints (restT is t)), rfl, by omega, fun i2 t2 ht2 => ?_, ?_⟩
        · walk_at "ev"
          refine ⟨les t2 (h2r t2 (List.mem_of_getElem? ht2)), ?_⟩
          rw [fLs82_is]
          exact ⟨rfl, rfl⟩
        walk_at "ev"
        rfl
      refine a_nil ?_
      walk_at "ev1"
      rw [eT]
      refine s_seq (s_app (i := 6) rfl (by simp) ?_)
      walk_at "ev"
      refine e_lcTf rfl ?_
      walk_at "ev"
      have hT2 := ht.tab
      refine ⟨List (List Int), t.2, dsays, fun r => .tup (r.map fun t => D.tup (dints (restT is t))), rfl, by rw [hT2.1]; omega, fun i r hr => ?_, ?_⟩
      · obtain ⟨h1r, h2r⟩ := hT2.2 i r hr
        have hir := (List.getElem?_eq_some_iff.mp hr).1
        rw [hT2.1] at hir
        walk_at "ev"
        refine e_lcTf rfl ?_
        walk_at "ev"
        refine ⟨List Int, r, fun t => .tup (dints t), fun t => .tup (dints (restT is t)), rfl, by omega, fun i2 t2 ht2 => ?_, ?_⟩
        · walk_at "ev"
          refine ⟨les t2 (h2r t2 (List.mem_of_getElem? ht2)), ?_⟩
          rw [fLs82_is]
          exact ⟨rfl, rfl⟩
        walk_at "ev"
        rfl
      refine a_nil ?_
      repeat (first | with_reducible refine s_freeze (i := 6) rfl ?_ | walk_at "ev1")
      rw [eT]
      have eL : [D.tup [D.int a, dsays (restS is S)]] ++ [dtab (restTab is T)] ++ [D.tup [D.tup (dnats t.fst), dtab (restTab is t.snd)]] = [dspot (restSp is (a, S)), dtab (restTab is T), dturn (restTu is t)] := rfl
      rw [eL]
      refine v_repr hsy ?_
      refine v_eqSame ?_
      walk_at "ro"
      walk_at "ev"
      refine ⟨⟨is, hs, rfl, hC.i, hH⟩, ?_⟩
      walk_at "ev"
      refine v_eqIns (r := true) ⟨is, hs, is, hs, rfl, hC.i, hH, hC.i, hH⟩ (by
        refine (fFe49_is cFrame is hs is hs).trans ?_
        rw [decide_eq_true ⟨rfl, rfl⟩]) ?_
      walk_at "ev"
      exact ⟨by omega, rfl⟩
    · obtain rfl := doO_no51 (fun _ h => h) hr1 hc
      obtain rfl := doO_no51 (fun _ h => h) hr2 hc
      obtain rfl := doO_no51 (fun _ h => h) hr3 hc
      obtain rfl := doO_no51 (fun _ h => h) hr4 hc
      have hsn := shows_no51 hF
      refine ⟨_, rfl, ?_⟩
      rw [cB_false hc, Bool.not_false, if_pos rfl]
      walk_at "ev"
      refine v_repr hsn ?_
      walk_at "ev"
      refine v_repL (by omega) (by omega) (by simp) ?_
      walk_at "ev"
      refine v_repr hsn ?_
      refine v_eqSame ?_
      walk_at "ro"
      walk_at "ev"
      exact ⟨by omega, rfl⟩

theorem okS__law_bent {dd : Nat} {f : Addr} {fd : FuncData} (F : Fun K "_law_bent" "_law_bent" s__law_bent f fd)
    {f__law_take : Addr} {fd__law_take : FuncData} (F__law_take : Fun K "_law_take" "_law_take" s__law_take f__law_take fd__law_take)
    (G__law_take : FnOk P w K mg base CX0 1 f__law_take fd__law_take ["_law_hand_here", "_law_many"] (SpH K preTake psiTake))
    (g__law_take : mg "_law_take" = some (.ref f__law_take))
    {f__law_near : Addr} {fd__law_near : FuncData} (F__law_near : Fun K "_law_near" "_law_near" s__law_near f__law_near fd__law_near)
    (G__law_near : FnOk P w K mg base CX0 3 f__law_near fd__law_near ["_law_hand_here", "_law_part"] (SpH K preNr psiNr))
    (g__law_near : mg "_law_near" = some (.ref f__law_near))
    (m_isinstance : mg "isinstance" = none)
    (m_len : mg "len" = none)
    (m_tuple : mg "tuple" = none)
    (G__law_bent : FnOk P w K mg base CX0 (4 + dd) f fd ["_law_hand_here", "_law_part"] (SpH K (preBe dd) psiBe)) (g__law_bent : mg "_law_bent" = some (.ref f)) :
    FnOk P w K mg base CX0 (4 + dd + 1) f fd ["_law_hand_here", "_law_part"] (SpH K (preBe (dd + 1)) psiBe) := by
  refine F.ok sc__law_bent (fun vs H Q E h => ?len) (fun cdv A outer s H vs Q E hr h => ⟨_, (pss_cons (ps_set (i := 2) sc__law_bent.nd rfl (by first | exact Or.inl rfl | exact Or.inr rfl) (pe_call G__law_take (hr.mono (by omega)) (by rfl) g__law_take F__law_take.kp (bi__law_take F__law_take) .nil pass0 (pa_cons (pv 0) (pa_cons pe_int pa_nil))))
      (pss_cons (ps_if (PW.pt (pw_or (pt_not (pt_val (pe_callB (show CallR _ _ (rIsi K) from call_isi) (by rfl) m_isinstance (by decide +kernel) (pa_cons (pv 1) (pa_cons (pe_bltn (v := .ty "tuple") (by rfl) m_tuple (by decide +kernel) rfl) pa_nil))))) (pw_or (pt_cmpR (show OpR _ _ (rEqE K) from op_eqE hr.units) (pv 1) (pe_tupC pa_nil) (nomark _)) (pw_or1 (pt_cmpR op_eq (pv 2) pe_int (nomark _)))))) (pss_one (ps_ret (pe_call G__law_near (hr.mono (by omega)) (by rfl) g__law_near F__law_near.kp (bi__law_near F__law_near) .nil pass0 (pa_cons (pv 0) (pa_cons (pv 1) pa_nil))))) pss_nil)
      (pss_cons (ps_set (i := 3) sc__law_bent.nd rfl (by first | exact Or.inl rfl | exact Or.inr rfl) (pe_call G__law_take (hr.mono (by omega)) (by rfl) g__law_take F__law_take.kp (bi__law_take F__law_take) .nil pass0 (pa_cons (pv 0) (pa_cons (pe_callB (show CallR _ _ (rLenQ K) from call_len_seq) (by rfl) m_len (by decide +kernel) (pa_cons (pv 1) pa_nil)) pa_nil))))
      (pss_cons (ps_if (pt_cmpR op_eq (pv 2) pe_int (nomark _)) (pss_one (ps_ret (pe_op (show OpR _ _ (rCatC K) from op_catC) (pe_slice (show SlR _ (rSlC K) from sl_tupC) (pv 1) po_none (po_some (pv 3))) (pe_slice (show SlR _ (rSlC K) from sl_tupC) (pv 1) (po_some (pe_op op_add (pv 3) pe_int)) po_none)))) pss_nil)
      (pss_cons (ps_if (pt_cmpR op_eq (pv 2) pe_int (nomark _)) (pss_one (ps_ret (pe_op (show OpR _ _ (rCatC K) from op_catC) (pe_op (show OpR _ _ (rCatC K) from op_catC) (pe_slice (show SlR _ (rSlC K) from sl_tupC) (pv 1) po_none (po_some (pv 3))) (pe_slice (show SlR _ (rSlC K) from sl_tupC) (pv 1) (po_some (pv 3)) (po_some (pe_op op_add (pv 3) pe_int)))) (pe_slice (show SlR _ (rSlC K) from sl_tupC) (pv 1) (po_some (pv 3)) po_none)))) pss_nil)
      (pss_one (ps_ret (pe_op (show OpR _ _ (rCatC K) from op_catC) (pe_op (show OpR _ _ (rCatC K) from op_catC) (pe_slice (show SlR _ (rSlC K) from sl_tupC) (pv 1) po_none (po_some (pv 3))) (pe_tupC (pa_cons (pe_call G__law_bent (hr.mono (by omega)) (by rfl) g__law_bent F.kp (bi__law_bent F) .nil pass0 (pa_cons (pv 0) (pa_cons (pe_ix (show IxR _ (rIxT K) from ix_tup) (pv 1) (pv 3) (fun _ _ => rfl)) pa_nil))) pa_nil))) (pe_slice (show SlR _ (rSlC K) from sl_tupC) (pv 1) (po_some (pe_op op_add (pv 3) pe_int)) po_none))))))))), ?r⟩)
  case len =>
    obtain ⟨l, ws, B, ds, m, rfl, _, _, _, is, ⟨d, rfl, _⟩, _⟩ := h
    show ws.length + 1 = 2
    rw [is.length]; rfl
  case r =>
    refine body_H h fun ad ds m hp hl => ?_
    obtain ⟨d, rfl, hd, hm, hF⟩ := hp
    have ho : d.own = false := plain_own hF.plain
    walk_at "body"
    walk_at "ev"
    refine g_take (by omega) (by decide) (by decide) fun m2 r2 q2 hr2 => ?_
    walk_at "ev"
    refine ⟨ho, _, rfl, ?_⟩
    have near : ∀ m3 r, psiNr [d] m2 m3 r → psiBe [d] m m3 r := fun m3 r q => by
      obtain ⟨h3, d', e, q⟩ := q
      cases e
      exact ⟨d, rfl, by omega, fun b k w hs h5 h8 => (q b k w hs h5 h8).up (by omega) (by omega) (by omega)⟩
    cases d with
    | tup xs =>
      have hxl := hF.len
      have cl : ∀ lo hi, (Wt.cutD xs lo hi).length ≤ xs.length := fun lo hi => (cut_sub xs lo hi).length_le
      show if (!true) = true then _ else _
      walk_at "ev"
      refine v_eqE ?_
      walk_at "ev"
      by_cases hx0 : xs = []
      · subst hx0
        show if true = true then _ else _
        walk_at "ev"
        exact ⟨⟨by omega, _, rfl, hF⟩, fun m3 r q => near m3 r q⟩
      have hpos : 0 < xs.length := List.length_pos_iff.mpr hx0
      rw [show xs.isEmpty = false by cases xs <;> first | rfl | exact absurd rfl hx0]
      walk_at "ev"
      by_cases h0 : (r2 : Int) = 0
      · rw [decide_eq_true h0]
        walk_at "ev"
        exact ⟨⟨by omega, _, rfl, hF⟩, fun m3 r q => near m3 r q⟩
      rw [decide_eq_false h0]
      walk_at "ev"
      refine g_take (by omega) hpos (by omega) fun m3 a q3 ha => ?_
      obtain ⟨x, hx⟩ : ∃ x, xs[a]? = some x := ⟨xs[a], List.getElem?_eq_getElem ha⟩
      walk_at "ev"
      by_cases h1 : (r2 : Int) = 1
      · rw [decide_eq_true h1]
        walk_at "ev"
        refine v_catT (by have := cl none (some a); have := cl (some (a + 1)) none; omega) ?_
        refine ⟨_, rfl, by omega, fun b k w hs h5 h8 => ?_⟩
        obtain ⟨k', rfl, s⟩ := sm_kk hs
        exact ((s.sub (cut_sub xs _ _)).app (s.sub (cut_sub xs _ _))).tup.up (by omega) (by omega) (by omega)
      rw [decide_eq_false h1]
      walk_at "ev"
      have wx := weight_at hx
      by_cases h2 : (r2 : Int) = 2
      · rw [decide_eq_true h2]
        walk_at "ev"
        rw [show (a : Int) + 1 = ((a + 1 : Nat) : Int) by omega, cut_to (by omega), cut_one hx]
        refine v_catT (by rw [List.length_take]; simp; omega) ?_
        walk_at "ev"
        rw [cut_from (by omega)]
        refine v_catT (by rw [List.length_append, List.length_take, List.length_drop]; simp; omega) ?_
        refine ⟨_, rfl, by omega, fun b k w hs h5 h8 => ?_⟩
        obtain ⟨k', rfl, s⟩ := sm_kk hs
        have s1 := sms_exact (s.sub (List.take_sublist a xs))
        have s2 := Sms.one (sm_exact (s.mem (List.mem_of_getElem? hx)))
        have s3 := sms_exact (s.sub (List.drop_sublist a xs))
        have e3 : PyData.weightAll (D.pys (xs.take a)) + PyData.weightAll (D.pys (xs.drop a)) = PyData.weightAll (D.pys xs) := by
          rw [← weight_app, List.take_append_drop]
        have hw := s.its.wt
        exact ((s1.app s2).app s3).tup.up (by omega) (by omega) (by omega)
      rw [decide_eq_false h2]
      walk_at "ev"
      rw [cut_to (by omega)]
      have hFx : Fit x := by
        obtain ⟨b, k, w, s, r⟩ := hF
        obtain ⟨k', rfl, s'⟩ := sm_kk s
        exact ⟨b, k', w, s'.mem (List.mem_of_getElem? hx), r.1, r.2.1, by omega, r.2.2.2⟩
      have hdx := deep_at (List.mem_of_getElem? hx)
      refine ⟨⟨x, rfl, by omega, by omega, hFx⟩, fun m4 y q4 => ?_⟩
      obtain ⟨x', e, q5, q6⟩ := q4
      cases e
      walk_at "ev"
      refine v_catT (by rw [List.length_take]; simp; omega) ?_
      walk_at "ev"
      rw [show (a : Int) + 1 = ((a + 1 : Nat) : Int) by omega, cut_from (by omega)]
      refine v_catT (by rw [List.length_append, List.length_take, List.length_drop]; simp; omega) ?_
      refine ⟨_, rfl, by omega, fun b k w hs h5 h8 => ?_⟩
      obtain ⟨k', rfl, s⟩ := sm_kk hs
      have hw := s.its.wt
      have sy := q6 b k' x.py.weight (sm_exact (s.mem (List.mem_of_getElem? hx))) h5 h8
      have s1 := (sms_exact (s.sub (List.take_sublist a xs))).up (c := b + 1) (k' := k' + 3) (by omega) (by omega) (Nat.le_refl _)
      have s3 := (sms_exact (s.sub (List.drop_sublist (a + 1) xs))).up (c := b + 1) (k' := k' + 3) (by omega) (by omega) (Nat.le_refl _)
      exact ((s1.app (Sms.one sy)).app s3).tup.up (Int.le_refl _) (by omega) (by omega)
    | _ =>
      show if (!false) = true then _ else _
      walk_at "ev"
      exact ⟨⟨by omega, _, rfl, hF⟩, fun m3 r q => near m3 r q⟩
theorem ok__law_bent {f : Addr} {fd : FuncData} (F__law_bent : Fun K "_law_bent" "_law_bent" s__law_bent f fd)
    {f__law_take : Addr} {fd__law_take : FuncData} (F__law_take : Fun K "_law_take" "_law_take" s__law_take f__law_take fd__law_take)
    (G__law_take : FnOk P w K mg base CX0 1 f__law_take fd__law_take ["_law_hand_here", "_law_many"] (SpH K preTake psiTake))
    (g__law_take : mg "_law_take" = some (.ref f__law_take))
    {f__law_near : Addr} {fd__law_near : FuncData} (F__law_near : Fun K "_law_near" "_law_near" s__law_near f__law_near fd__law_near)
    (G__law_near : FnOk P w K mg base CX0 3 f__law_near fd__law_near ["_law_hand_here", "_law_part"] (SpH K preNr psiNr))
    (g__law_near : mg "_law_near" = some (.ref f__law_near))
    (m_isinstance : mg "isinstance" = none)
    (m_len : mg "len" = none)
    (m_tuple : mg "tuple" = none) (g__law_bent : mg "_law_bent" = some (.ref f)) :
    FnOk P w K mg base CX0 14 f fd ["_law_hand_here", "_law_part"] (SpH K (preBe 10) psiBe) := by
  have all : ∀ dd : Nat, FnOk P w K mg base CX0 (4 + dd) f fd ["_law_hand_here", "_law_part"] (SpH K (preBe dd) psiBe) := fun dd => by
    induction dd with
    | zero => exact fnOk_no fun vs H Q E h => spH_no (fun m ds q => by simp [preBe] at q) h
    | succ dd ih => exact okS__law_bent F__law_bent F__law_take G__law_take g__law_take F__law_near G__law_near g__law_near m_isinstance m_len m_tuple ih g__law_bent
  exact all 10

theorem ok__law_items {f : Addr} {fd : FuncData} (F : Fun K "_law_items" "_law_items" s__law_items f fd)
    {f__law_bent : Addr} {fd__law_bent : FuncData} (F__law_bent : Fun K "_law_bent" "_law_bent" s__law_bent f__law_bent fd__law_bent)
    (G__law_bent : FnOk P w K mg base CX0 14 f__law_bent fd__law_bent ["_law_hand_here", "_law_part"] (SpH K (preBe 10) psiBe))
    (g__law_bent : mg "_law_bent" = some (.ref f__law_bent))
    (m_list : mg "list" = none)
    (m_range : mg "range" = none) :
    FnOk P w K mg base CX0 15 f fd ["_law_hand_here", "_law_scale_here"] (SpH K preIt51 psiIt51) := by
  refine F.ok sc__law_items (fun vs H Q E h => ?len) (fun cdv A outer s H vs Q E hr h => ⟨_, (pss_cons (ps_setLc (i := 2) (own := [("_law_one", 3)]) (g := gName 3) (tt := tYes) rfl sc__law_items.nd rfl rfl (sw_true rfl rfl rfl (by decide +kernel)) (pi_range2 rfl m_range (pa_cons pe_int (pa_cons pe_int pa_nil))) (blkOk_by (own := [("_law_one", 3)]) (N := ["_law_hand_here", "_law_scale_here", "_law_found", "_law_one", "_law_two", "_law_k", "_law_three"]) (sc := defScope s__law_items) (by decide +kernel)) (fun _ _ _ _ _ => (pg_name (i := 3) sc__law_items.nd rfl (by first | exact Or.inl rfl | exact Or.inr rfl))) (fun _ _ _ _ _ => pts_nil) (fun _ _ _ _ _ => (pe_tupC (pa_cons (pv 3) pa_nil))))
      (pss_cons (ps_for PassesOwn.never rfl (pi_range2 rfl m_range (pa_cons pe_int (pa_cons pe_int pa_nil))) (pg_name (i := 3) sc__law_items.nd rfl (by first | exact Or.inl rfl | exact Or.inr rfl)) (pss_one (ps_expr (pe_bm PySem.F.plainAttrs_list PySem.F.slot_list_extend PySem.F.type_list_extend mt_extend (pv 2) (pa_cons (pe_lc (own := [("_law_two", 4)]) (g := gName 4) (tt := tYes) rfl sc__law_items.nd (pi_range2 rfl m_range (pa_cons pe_int (pa_cons pe_int pa_nil))) (blkOk_by (own := [("_law_two", 4)]) (N := ["_law_hand_here", "_law_scale_here", "_law_found", "_law_one", "_law_two", "_law_k", "_law_three"]) (sc := defScope s__law_items) (by decide +kernel)) (fun _ _ _ _ _ => (pg_name (i := 4) sc__law_items.nd rfl (by first | exact Or.inl rfl | exact Or.inr rfl))) (fun _ _ _ _ _ => pts_nil) (fun _ _ _ _ _ => (pe_tupC (pa_cons (pv 3) (pa_cons (pv 4) pa_nil))))) pa_nil)))))
      (pss_cons (ps_for PassesOwn.never rfl (pi_range2 rfl m_range (pa_cons pe_int (pa_cons pe_int pa_nil))) (pg_name (i := 3) sc__law_items.nd rfl (by first | exact Or.inl rfl | exact Or.inr rfl)) (pss_one (ps_for PassesOwn.never rfl (pi_range2 rfl m_range (pa_cons pe_int (pa_cons pe_int pa_nil))) (pg_name (i := 4) sc__law_items.nd rfl (by first | exact Or.inl rfl | exact Or.inr rfl)) (pss_one (ps_expr (pe_bm PySem.F.plainAttrs_list PySem.F.slot_list_extend PySem.F.type_list_extend mt_extend (pv 2) (pa_cons (pe_lc (own := [("_law_three", 6)]) (g := gName 6) (tt := tYes) rfl sc__law_items.nd (pi_range2 rfl m_range (pa_cons pe_int (pa_cons pe_int pa_nil))) (blkOk_by (own := [("_law_three", 6)]) (N := ["_law_hand_here", "_law_scale_here", "_law_found", "_law_one", "_law_two", "_law_k", "_law_three"]) (sc := defScope s__law_items) (by decide +kernel)) (fun _ _ _ _ _ => (pg_name (i := 6) sc__law_items.nd rfl (by first | exact Or.inl rfl | exact Or.inr rfl))) (fun _ _ _ _ _ => pts_nil) (fun _ _ _ _ _ => (pe_tupC (pa_cons (pv 3) (pa_cons (pv 4) (pa_cons (pv 6) pa_nil)))))) pa_nil)))))))
      (pss_cons (ps_set (i := 2) sc__law_items.nd rfl (by first | exact Or.inl rfl | exact Or.inr rfl) (pe_op op_cat (pv 2) (pe_lst (pa_cons (pv 1) (pa_cons (pe_callTy (show CallR _ _ (rListQ K) from call_list_of) (by rfl) m_list (by decide +kernel) (pa_cons (pv 1) pa_nil)) (pa_cons (pe_slice (show SlR _ (rSlC K) from sl_tupC) (pv 1) po_none (po_some (pe_un un_neg pe_int))) (pa_cons (pe_op (show OpR _ _ (rCatC K) from op_catC) (pv 1) (pe_tupC (pa_cons pe_int pa_nil))) (pa_cons (pe_revTK (K := K) rfl (pv 1)) (pa_cons (pe_tupC pa_nil) (pa_cons pe_non (pa_cons pe_int (pa_cons pe_str (pa_cons (pe_lst (pa_cons pe_int pa_nil)) (pa_cons pe_dnewK (pa_cons (pe_tupC (pa_cons pe_bl pa_nil)) pa_nil)))))))))))))))
      (pss_one (ps_ret (pe_op op_cat (pv 2) (pe_lc (own := [("_law_k", 5)]) (g := gName 5) (tt := tYes) rfl sc__law_items.nd (pi_range1 rfl m_range (pa_cons pe_int pa_nil)) (blkOk_by (own := [("_law_k", 5)]) (N := ["_law_hand_here", "_law_scale_here", "_law_found", "_law_one", "_law_two", "_law_k", "_law_three"]) (sc := defScope s__law_items) (by decide +kernel)) (fun _ _ _ _ _ => (pg_name (i := 5) sc__law_items.nd rfl (by first | exact Or.inl rfl | exact Or.inr rfl))) (fun _ _ _ _ _ => pts_nil) (fun _ _ _ _ _ => (pe_call G__law_bent (hr.mono (by decide)) (by rfl) g__law_bent F__law_bent.kp (bi__law_bent F__law_bent) .nil pass0 (pa_cons (pv 0) (pa_cons (pv 1) pa_nil)))))))))))), ?r⟩)
  case len =>
    obtain ⟨l, ws, B, ds, m, rfl, _, _, _, is, ⟨_, ms, rfl, _⟩, _⟩ := h
    show ws.length + 1 = 2
    rw [is.length]; rfl
  case r =>
    refine body_H h fun ad ds m hp hl => ?_
    obtain ⟨hm, ms, rfl, hQ⟩ := hp
    walk_at "body"
    refine s_seq (s_ownLcR2f rfl ?_)
    walk_at "ev"
    refine ⟨fun t => .tup (dints [(1 + t : Nat)]), fun t ht => ?_, ?_⟩
    · walk_at "ev"
      rfl
    refine s_seq (s_forR2 ?_)
    walk_at "ev"
    refine ⟨fun i n ρ' => n = m ∧ ∃ ds, ds.length = 6 + 6 * i ∧ (∀ d ∈ ds, Fit d) ∧ ∃ x3, ρ' = [some .hand, some (.dat (.tup (dints ms))), some (.own ds), x3, none, none, none], ⟨rfl, _, by simp, ?_, none, rfl⟩, ?_, ?_⟩
    · intro d hd
      obtain ⟨t, ht, rfl⟩ := List.mem_map.mp hd
      exact fit_ints51 (by simp) fun i hi => by
        have : t < 6 := List.mem_range.mp ht
        simp only [List.mem_cons, List.not_mem_nil, or_false] at hi
        omega
    · intro i n ρ' hi hI
      obtain ⟨rfl, ds, hl1, hF, x3, rfl⟩ := hI
      refine s_ext (i := 2) rfl (e_lcR2f rfl ?_)
      have hi4 : i < 4 := hi
      walk_at "ev"
      refine ⟨fun t => .tup (dints [(2 + i : Nat), (1 + t : Nat)]), fun t ht => ?_, ?_⟩
      · walk_at "ev"
        rfl
      refine ⟨_, rfl, ?_, rfl, _, ?_, ?_, _, rfl⟩
      · rw [List.length_map, List.length_range]; show ds.length + 6 ≤ 100000; omega
      · rw [List.length_append, List.length_map, List.length_range]; show ds.length + 6 = _; omega
      · intro d hd
        rcases List.mem_append.mp hd with hd | hd
        · exact hF d hd
        obtain ⟨t, ht, rfl⟩ := List.mem_map.mp hd
        exact fit_ints51 (by simp) fun i hi => by
          have : t < 6 := List.mem_range.mp ht
          simp only [List.mem_cons, List.not_mem_nil, or_false] at hi
          omega
    · intro n ρ' hI
      obtain ⟨rfl, ds, hl1, hF, x3, rfl⟩ := hI
      refine s_seq (s_forR2 ?_)
      walk_at "ev"
      refine ⟨fun i n1 ρ' => n1 = n ∧ ∃ ds, ds.length = 30 + 16 * i ∧ (∀ d ∈ ds, Fit d) ∧ ∃ x3 x4, ρ' = [some .hand, some (.dat (.tup (dints ms))), some (.own ds), x3, x4, none, none], ⟨rfl, _, by omega, hF, _, _, rfl⟩, ?_, ?_⟩
      · intro i n1 ρ' hi hI
        obtain ⟨rfl, ds, hl1, hF, x3, x4, rfl⟩ := hI
        refine s_forR2 ?_
        walk_at "ev"
        refine ⟨fun i2 n2 ρ' => n2 = n1 ∧ ∃ ds, ds.length = 30 + 16 * i + 4 * i2 ∧ (∀ d ∈ ds, Fit d) ∧ ∃ x4, ρ' = [some .hand, some (.dat (.tup (dints ms))), some (.own ds), some (.dat (.int (2 + i : Nat))), x4, none, none], ⟨rfl, _, by omega, hF, _, rfl⟩, ?_, ?_⟩
        · intro i2 n2 ρ' hi2 hI
          obtain ⟨rfl, ds, hl1, hF, x4, rfl⟩ := hI
          refine s_ext (i := 2) rfl (e_lcR2f rfl ?_)
          have hi4 : i < 4 := hi
          have hi5 : i2 < 4 := hi2
          walk_at "ev"
          refine ⟨fun t => .tup (dints [(2 + i : Nat), (2 + i2 : Nat), (2 + t : Nat)]), fun t ht => ?_, ?_⟩
          · walk_at "ev"
            rfl
          refine ⟨_, rfl, ?_, rfl, _, ?_, ?_, _, rfl⟩
          · rw [List.length_map, List.length_range]; show ds.length + 4 ≤ 100000; omega
          · rw [List.length_append, List.length_map, List.length_range]; show ds.length + 4 = _; omega
          · intro d hd
            rcases List.mem_append.mp hd with hd | hd
            · exact hF d hd
            obtain ⟨t, ht, rfl⟩ := List.mem_map.mp hd
            exact fit_ints51 (by simp) fun i hi => by
              have : t < 4 := List.mem_range.mp ht
              simp only [List.mem_cons, List.not_mem_nil, or_false] at hi
              omega
        · intro n2 ρ' hI
          obtain ⟨rfl, ds, hl1, hF, x4, rfl⟩ := hI
          exact ⟨rfl, _, by omega, hF, _, _, rfl⟩
      · intro n1 ρ' hI
        obtain ⟨rfl, ds, hl1, hF, x3, x4, rfl⟩ := hI
        have hl2 : ds.length = 94 := hl1
        refine s_freezeP (i := 2) (P := Fit) rfl hF fun frs hl3 hF2 => ?_
        have h3m := hQ.1.2.1
        have h0m := hQ.1.1
        walk_at "ev"
        refine v_catT (by rw [dints_length]; show _ + 1 ≤ _; omega) ?_
        walk_at "ev"
        have hfit := items_fit51 hQ
        refine v_catL (by rw [hl3, hl2]; show 94 + 12 ≤ _; omega) ?_
        refine s_ret ?_
        walk_at "ev"
        refine e_lcR rfl ?_
        walk_at "ev"
        have hdp := dep_ms51 hQ
        have hfm : Fit (.tup (dints ms)) := hfit _ List.mem_cons_self
        refine ⟨fun i n acc => n ≤ n1 + 6 * i ∧ ∀ d ∈ acc, Fit d, ⟨by omega, fun _ z => nomatch z⟩, fun i n acc hi hI hl4 => ?_, fun n acc hl4 hI => ?_⟩
        · obtain ⟨hn, hA⟩ := hI
          have hi12 : i < 12 := hi
          walk_at "ev"
          refine ⟨⟨_, rfl, by omega, by omega, hfm⟩, fun m2 d hd => ?_⟩
          obtain ⟨d0, e, hm2, hr⟩ := hd
          cases e
          refine ⟨by omega, fun x hx => ?_⟩
          rcases List.mem_append.mp hx with hx | hx
          · exact hA x hx
          obtain rfl := List.mem_singleton.mp hx
          exact Fit.of (hr _ _ _ (ms_sms51 hQ).tup (by omega) (by omega)) (by omega) (by omega) (by omega) (by omega)
        · obtain ⟨hn, hA⟩ := hI
          have hl5 : acc.length = 12 := hl4
          have hn12 : n ≤ n1 + 6 * 12 := hn
          have hL : (frs ++ [D.tup (dints ms), D.lst (dints ms), D.tup (Wt.cutD (dints ms) none (some (-1))), D.tup (dints ms ++ [D.int 2]), D.tup (dints ms).reverse, D.tup [], D.non, D.int 2, D.str (Str.ofString "2"), D.lst [D.int 2], D.dic [], D.tup [D.bl true]]).length = 106 := by
            rw [List.length_append, hl3, hl2]; rfl
          refine v_catL (by rw [hL, hl5]; omega) ?_
          refine ⟨by omega, _, rfl, fun x hx => ?_, by rw [List.length_append, hL, hl5]; omega⟩
          rcases List.mem_append.mp hx with hx | hx
          · rcases List.mem_append.mp hx with hx | hx
            · exact hF2 x hx
            · exact hfit x hx
          · exact hA x hx

theorem ok__law_right {f : Addr} {fd : FuncData} (F : Fun K "_law_right" "_law_right" s__law_right f fd)
    {f_is_coarser : Addr} {fd_is_coarser : FuncData} (F_is_coarser : Fun K "is_coarser" "is_coarser" s_is_coarser f_is_coarser fd_is_coarser)
    (G_is_coarser : FnOk P w K mg base CX0 4 f_is_coarser fd_is_coarser ["measure", "thing"] (SpP K preIc51 fIc51))
    (g_is_coarser : mg "is_coarser" = some (.ref f_is_coarser))
    {f__law_take : Addr} {fd__law_take : FuncData} (F__law_take : Fun K "_law_take" "_law_take" s__law_take f__law_take fd__law_take)
    (G__law_take : FnOk P w K mg base CX0 1 f__law_take fd__law_take ["_law_hand_here", "_law_many"] (SpH K preTake psiTake))
    (g__law_take : mg "_law_take" = some (.ref f__law_take))
    {f__law_scale : Addr} {fd__law_scale : FuncData} (F__law_scale : Fun K "_law_scale" "_law_scale" s__law_scale f__law_scale fd__law_scale)
    (G__law_scale : FnOk P w K mg base CX0 3 f__law_scale fd__law_scale ["_law_hand_here"] (SpH K preSc psiSc))
    (g__law_scale : mg "_law_scale" = some (.ref f__law_scale))
    {f__law_colours : Addr} {fd__law_colours : FuncData} (F__law_colours : Fun K "_law_colours" "_law_colours" s__law_colours f__law_colours fd__law_colours)
    (G__law_colours : FnOk P w K mg base CX0 3 f__law_colours fd__law_colours ["_law_hand_here", "_law_most"] (SpH K preCol psiCol))
    (g__law_colours : mg "_law_colours" = some (.ref f__law_colours))
    {f__law_due : Addr} {fd__law_due : FuncData} (F__law_due : Fun K "_law_due" "_law_due" s__law_due f__law_due fd__law_due)
    (G__law_due : FnOk P w K mg base CX0 3 f__law_due fd__law_due ["_law_scale_here", "_law_item"] (SpP K preIc51 fIc51))
    (g__law_due : mg "_law_due" = some (.ref f__law_due))
    {f__law_doors_right : Addr} {fd__law_doors_right : FuncData} (F__law_doors_right : Fun K "_law_doors_right" "_law_doors_right" s__law_doors_right f__law_doors_right fd__law_doors_right)
    (G__law_doors_right : FnG P w K mg base CX0 10 f__law_doors_right fd__law_doors_right ["_law_hand_here", "_law_scale_here", "_law_hues", "_law_item"] (SpH K preDo51 psiDo51))
    (g__law_doors_right : mg "_law_doors_right" = some (.ref f__law_doors_right))
    {f__law_items : Addr} {fd__law_items : FuncData} (F__law_items : Fun K "_law_items" "_law_items" s__law_items f__law_items fd__law_items)
    (G__law_items : FnOk P w K mg base CX0 15 f__law_items fd__law_items ["_law_hand_here", "_law_scale_here"] (SpH K preIt51 psiIt51))
    (g__law_items : mg "_law_items" = some (.ref f__law_items))
    (m_repr : mg "repr" = none) :
    FnG P w K mg base CX0 16 f fd ["_law_hand_here"] (SpH K preR0 psiR0) := by
  refine okG F sc__law_right (fun vs H Q E h => ?len) (fun cdv A outer s H vs Q E hG hr h => ⟨_, (pss_cons (ps_par (i := 2) (j := 3) rfl sc__law_right.nd rfl rfl (by decide) rfl rfl (pa_cons (pe_call G__law_scale (hr.mono (by decide)) (by rfl) g__law_scale F__law_scale.kp (bi__law_scale F__law_scale) .nil pass0 (pa_cons (pv 0) pa_nil)) (pa_cons (pe_call G__law_colours (hr.mono (by decide)) (by rfl) g__law_colours F__law_colours.kp (bi__law_colours F__law_colours) .nil pass0 (pa_cons (pv 0) (pa_cons pe_int pa_nil))) pa_nil)) (by rfl))
      (pss_cons (ps_for PassesOwn.never rfl (pi_list (pe_call G__law_items (hr.mono (by decide)) (by rfl) g__law_items F__law_items.kp (bi__law_items F__law_items) .nil pass0 (pa_cons (pv 0) (pa_cons (pv 2) pa_nil)))) (pg_name (i := 1) sc__law_right.nd rfl (by first | exact Or.inl rfl | exact Or.inr rfl)) (pss_cons (ps_if (pt_cmpR op_ne (pe_callB (show CallR _ _ (rRepr K) from call_reprD hG hr) (by rfl) m_repr (by decide +kernel) (pa_cons (pe_call G_is_coarser (hr.mono (by decide)) (by rfl) g_is_coarser F_is_coarser.kp (bi_is_coarser F_is_coarser) .nil pass0 (pa_cons (pv 2) (pa_cons (pv 1) pa_nil))) pa_nil)) (pe_callB (show CallR _ _ (rRepr K) from call_reprD hG hr) (by rfl) m_repr (by decide +kernel) (pa_cons (pe_call G__law_due (hr.mono (by decide)) (by rfl) g__law_due F__law_due.kp (bi__law_due F__law_due) .nil pass0 (pa_cons (pv 2) (pa_cons (pv 1) pa_nil))) pa_nil)) (nomark _)) (pss_one (ps_ret pe_bl)) pss_nil)
      (pss_one (ps_if (PW.pt (pw_and (PW.pt (pw_or (pt_cmpR op_eq (pe_call G__law_take (hr.mono (by decide)) (by rfl) g__law_take F__law_take.kp (bi__law_take F__law_take) .nil pass0 (pa_cons (pv 0) (pa_cons pe_int pa_nil))) pe_int (nomark _)) (pw_or1 (pt_val (pe_call G__law_due (hr.mono (by decide)) (by rfl) g__law_due F__law_due.kp (bi__law_due F__law_due) .nil pass0 (pa_cons (pv 2) (pa_cons (pv 1) pa_nil))))))) (pw_and1 (pt_not (pt_val (pe_callG G__law_doors_right hG (hr.mono (by decide)) (by rfl) g__law_doors_right F__law_doors_right.kp (bi__law_doors_right F__law_doors_right) .nil pass0 (pa_cons (pv 0) (pa_cons (pv 2) (pa_cons (pv 3) (pa_cons (pv 1) pa_nil)))))))))) (pss_one (ps_ret pe_bl)) pss_nil))))
      (pss_one (ps_ret (pe_and (pe_callG G__law_doors_right hG (hr.mono (by decide)) (by rfl) g__law_doors_right F__law_doors_right.kp (bi__law_doors_right F__law_doors_right) .nil pass0 (pa_cons (pv 0) (pa_cons (pv 2) (pa_cons (pv 3) (pa_cons pe_non pa_nil))))) (pe_one (pe_callG G__law_doors_right hG (hr.mono (by decide)) (by rfl) g__law_doors_right F__law_doors_right.kp (bi__law_doors_right F__law_doors_right) .nil pass0 (pa_cons (pv 0) (pa_cons (pv 2) (pa_cons (pv 3) (pa_cons (pv 2) pa_nil))))))))))), ?r⟩)
  case len =>
    obtain ⟨l, ws, B, ds, m, rfl, _, _, _, is, ⟨_, rfl⟩, _⟩ := h
    show ws.length + 1 = 1
    rw [is.length]; rfl
  case r =>
    refine body_H h fun ad ds m hp hl => ?_
    obtain ⟨rfl, rfl⟩ := hp
    walk_at "body"
    walk_at "ev"
    refine g_scale (by omega) fun m1 ms q1 hMQ => ?_
    walk_at "ev"
    refine g_col (by omega) (by omega) (by omega) fun m2 hs q2 hH hl2 => ?_
    have hm2 : m2 ≤ 1000 := by omega
    walk_at "ev"
    refine s_seq (s_forL ?_)
    walk_at "ev"
    refine ⟨⟨by omega, ms, rfl, hMQ⟩, fun m3 d hd => ?_⟩
    obtain ⟨hm3, L, rfl, hF, hLl⟩ := hd
    refine ⟨L, rfl, fun i n ρ' => n ≤ m3 + 8010 * i ∧ ∃ x, ρ' = [some .hand, x, some (.dat (.tup (dints ms))), some (.dat (.tup (dints hs)))], ⟨by omega, _, rfl⟩, fun i n ρ' d hd hI => ?_, fun n ρ' hI => ?_⟩
    · obtain ⟨hn, x, rfl⟩ := hI
      have hil : i < L.length := (List.getElem?_eq_some_iff.mp hd).1
      have hFd := hF d (List.mem_of_getElem? hd)
      have hpd := hFd.plain
      have hpi : preIc51 [.tup (dints ms), d] := ⟨ms, d, rfl, hMQ, hpd⟩
      have hsb : Shows (fIc51 [.tup (dints ms), d]) := by
        rw [fIc51_is]
        cases cB (CoP51 ms d) <;> exact Shows.of (by decide +kernel)
      walk_at "ev"
      refine ⟨hpi, ?_⟩
      walk_at "ev"
      refine ⟨hpi, ?_⟩
      walk_at "ev"
      refine g_take (by omega) (by decide) (by decide) fun m4 r hm4 hr => ?_
      walk_at "ev"
      by_cases hr0 : (r : Int) = 0
      · rw [if_pos (decide_eq_true hr0)]
        walk_at "ev"
        refine ⟨⟨by omega, ms, hs, _, rfl, hMQ, hH, hFd⟩, fun m5 d2 hd2 => ?_⟩
        obtain ⟨hm5, rfl⟩ := hd2
        walk_at "ev"
        exact ⟨by omega, _, rfl⟩
      · rw [if_neg (show ¬ decide ((r : Int) = 0) = true by rw [decide_eq_true_eq]; exact hr0)]
        walk_at "ev"
        refine ⟨hpi, ?_⟩
        rw [fIc51_is]
        cases cB (CoP51 ms d) with
        | true =>
          walk_at "ev"
          refine ⟨⟨by omega, ms, hs, _, rfl, hMQ, hH, hFd⟩, fun m5 d2 hd2 => ?_⟩
          obtain ⟨hm5, rfl⟩ := hd2
          walk_at "ev"
          exact ⟨by omega, _, rfl⟩
        | false =>
          walk_at "ev"
          exact ⟨by omega, _, rfl⟩
    · obtain ⟨hn, x, rfl⟩ := hI
      have hFs : Fit (.tup (dints ms)) := items_fit51 hMQ _ List.mem_cons_self
      have hFn : Fit .non := items_fit51 hMQ _ (by simp)
      refine s_next ?_
      have hnL : n ≤ 1700000 := by omega
      walk_at "ev"
      refine ⟨⟨by omega, ms, hs, _, rfl, hMQ, hH, hFn⟩, fun m4 d hd => ?_⟩
      obtain ⟨hm4, rfl⟩ := hd
      refine ⟨_, rfl, ?_⟩
      rw [if_pos rfl]
      walk_at "ev"
      refine ⟨⟨by omega, ms, hs, _, rfl, hMQ, hH, hFs⟩, fun m5 d hd => ?_⟩
      exact hd.2

theorem ok_law {f : Addr} {fd : FuncData} (F : Fun K "law" "law" s_law f fd)
    {f__law_hand : Addr} {fd__law_hand : FuncData} (F__law_hand : Fun K "_law_hand" "_law_hand" s__law_hand f__law_hand fd__law_hand)
    (G__law_hand : FnOk P w K mg base CX0 1 f__law_hand fd__law_hand ["_law_script", "_law_k"] (SpR K preHand fun _ d => isHand d))
    (g__law_hand : mg "_law_hand" = some (.ref f__law_hand))
    {f__law_right : Addr} {fd__law_right : FuncData} (F__law_right : Fun K "_law_right" "_law_right" s__law_right f__law_right fd__law_right)
    (G__law_right : FnG P w K mg base CX0 16 f__law_right fd__law_right ["_law_hand_here"] (SpH K preR0 psiR0))
    (g__law_right : mg "_law_right" = some (.ref f__law_right))
    (m_all : mg "all" = none)
    (m_len : mg "len" = none)
    (m_max : mg "max" = none)
    (m_min : mg "min" = none)
    (m_range : mg "range" = none) :
    FnG P w K mg base CX0 17 f fd ["_law_script"] (SpP K preLaw0 fun _ => .bl true) := by
  refine okG F sc_law (fun vs H Q E h => ?len) (fun cdv A outer s H vs Q E hG hr h => ⟨_, (pss_one (ps_ret (pe_callB (show CallR _ _ (rAll K) from cr_all rfl) (by rfl) m_all (by decide +kernel) (pa_cons (pe_lc (own := [("_law_k", 1)]) (g := gName 1) (tt := tYes) rfl sc_law.nd (pi_range1 rfl m_range (pa_cons (pe_callB (call_max2 rfl) (by rfl) m_max (by decide +kernel) (pa_cons pe_int (pa_cons (pe_callB (call_min2 rfl) (by rfl) m_min (by decide +kernel) (pa_cons pe_int (pa_cons (pe_callB (show CallR _ _ (rLenQ K) from call_len_seq) (by rfl) m_len (by decide +kernel) (pa_cons (pv 0) pa_nil)) pa_nil))) pa_nil))) pa_nil)) (blkOk_by (own := [("_law_k", 1)]) (N := ["_law_script", "_law_k"]) (sc := defScope s_law) (by decide +kernel)) (fun _ _ _ _ _ => (pg_name (i := 1) sc_law.nd rfl (by first | exact Or.inl rfl | exact Or.inr rfl))) (fun _ _ _ _ _ => pts_nil) (fun _ _ _ _ _ => (pe_callG G__law_right hG (hr.mono (by decide)) (by rfl) g__law_right F__law_right.kp (bi__law_right F__law_right) .nil pass0 (pa_cons (pe_call G__law_hand (hr.mono (by decide)) (by rfl) g__law_hand F__law_hand.kp (bi__law_hand F__law_hand) .nil pass0 (pa_cons (pv 0) (pa_cons (pv 1) pa_nil))) pa_nil)))) pa_nil)))), ?r⟩)
  case len =>
    obtain ⟨B, ds, _, is, ⟨d, rfl⟩, _⟩ := h
    exact is.length
  case r =>
    refine body_P h fun ds hp hl => ?_
    obtain ⟨ns, rfl⟩ := hp
    walk_at "body"
    refine s_ret (e_cb (a_cons (e_lcR rfl ?_)))
    walk_at "ev"
    refine ⟨?_, ?_, fun i n acc => acc = (List.replicate i true).map D.bl, rfl, ?_, ?_⟩
    · split <;> split <;> omega
    · split <;> split <;> omega
    · intro i n acc hi hI _
      subst hI
      have ht3 : i < 3 := by
        revert hi
        split <;> split <;> omega
      refine e_handCall (ns := ns) (n := i) rfl rfl ⟨ns, _, rfl, by omega, by omega⟩ ⟨rfl, rfl⟩ fun m2 d q => ?_
      show List.map D.bl (List.replicate i true) ++ [d] = List.map D.bl (List.replicate (i + 1) true)
      rw [show d = .bl true from q, List.replicate_succ', List.map_append]
      rfl
    · intro n acc _ hI
      subst hI
      refine a_nil (v_all ?_)
      rw [all_true]
end
theorem all_mk {l : PySem.W.OpenLaw} {w : World} {K : PySem.W.Frag} {h : Heap}
    {mg : Str → Option Value} {fa : Addr} (X : K.In h) (G : h.Ns mainGlobals mg)
    (hfa : mg "law" = some (.ref fa))
    {cFrame : Addr} (p0 : PySem.W.nsIn K mainGlobals "Frame" = some (some (.ref cFrame)))
    (q0g : PySem.W.plainGet K cFrame Str.empty = true)
    (q0h : PySem.W.hasDictIn K cFrame = true)
    (q0o : PySem.W.plainOver K cFrame = true)
    (q0s : PySem.W.findIn K (.ref cFrame) "__setattr__" = some (some (.builtin "object.__setattr__")))
    (q0m : PySem.W.makesIn K cFrame = true)
    (q0k : PySem.W.keepIn K (.ref cFrame) = true)
    (q0x : PySem.W.findIn K (.ref cFrame) "measure" = some none)
    (q0y : PySem.W.findIn K (.ref cFrame) "hues" = some none)
    (q0ne : PySem.W.findIn K (.ref cFrame) "__ne__" = some (some (.builtin "object.__ne__")))
    (q0ob : PySem.W.subIn K (.ref cFrame) (.type "object") = some true)
    (q0ha : PySem.W.findIn K (.ref cFrame) "__class__" = some (some (.builtin "object.__class__")))
    (q0hn : PySem.W.specialIn K (.builtin "object.__class__") "__get__" = some (some (.builtin "getset_descriptor.__get__")))
    (q0ht : PySem.W.takesIn K (.builtin "object.__class__") = some true)
    (q0hm : PySem.W.mroIn K cFrame (.type "object") = some true)
    (q0me : PySem.W.kitOne K (.ref cFrame) (.ref cFrame) = some true)
    {f0 : Addr} {od0 an0 : Option Addr} {sl0 : Array (Option Value)} {oc0 kV0 dc0 pm0 cd0 ct0 : Value}
    (a0 : PySem.W.nsIn K mainGlobals "is_whole" = some (some (.ref f0)))
    (l0 : K.lookup f0 = some ⟨oc0, od0, .func (PySem.W.fnOf "is_whole" "is_whole" (defArgs s_is_whole) (defBody s_is_whole) (defScope s_is_whole) .none kV0 dc0 pm0 an0 cd0 ct0), sl0⟩)
    (c0 : PySem.W.codeIn K cd0 "is_whole" = true) (k0 : PySem.W.keepIn K (.ref f0) = true)
    {f1 : Addr} {od1 an1 : Option Addr} {sl1 : Array (Option Value)} {oc1 kV1 dc1 pm1 cd1 ct1 : Value}
    (a1 : PySem.W.nsIn K mainGlobals "is_within" = some (some (.ref f1)))
    (l1 : K.lookup f1 = some ⟨oc1, od1, .func (PySem.W.fnOf "is_within" "is_within" (defArgs s_is_within) (defBody s_is_within) (defScope s_is_within) .none kV1 dc1 pm1 an1 cd1 ct1), sl1⟩)
    (c1 : PySem.W.codeIn K cd1 "is_within" = true) (k1 : PySem.W.keepIn K (.ref f1) = true)
    {f2 : Addr} {od2 an2 : Option Addr} {sl2 : Array (Option Value)} {oc2 kV2 dc2 pm2 cd2 ct2 : Value}
    (a2 : PySem.W.nsIn K mainGlobals "product" = some (some (.ref f2)))
    (l2 : K.lookup f2 = some ⟨oc2, od2, .func (PySem.W.fnOf "product" "product" (defArgs s_product) (defBody s_product) (defScope s_product) .none kV2 dc2 pm2 an2 cd2 ct2), sl2⟩)
    (c2 : PySem.W.codeIn K cd2 "product" = true) (k2 : PySem.W.keepIn K (.ref f2) = true)
    {f3 : Addr} {od3 an3 : Option Addr} {sl3 : Array (Option Value)} {oc3 kV3 dc3 pm3 cd3 ct3 : Value}
    (a3 : PySem.W.nsIn K mainGlobals "is_measure" = some (some (.ref f3)))
    (l3 : K.lookup f3 = some ⟨oc3, od3, .func (PySem.W.fnOf "is_measure" "is_measure" (defArgs s_is_measure) (defBody s_is_measure) (defScope s_is_measure) .none kV3 dc3 pm3 an3 cd3 ct3), sl3⟩)
    (c3 : PySem.W.codeIn K cd3 "is_measure" = true) (k3 : PySem.W.keepIn K (.ref f3) = true)
    {f4 : Addr} {od4 an4 : Option Addr} {sl4 : Array (Option Value)} {oc4 kV4 dc4 pm4 cd4 ct4 : Value}
    (a4 : PySem.W.findIn K (.ref cFrame) "__init__" = some (some (.ref f4))) (b4 : PySem.W.isFn K (.ref f4) = true)
    (l4 : K.lookup f4 = some ⟨oc4, od4, .func (PySem.W.fnOf "__init__" "Frame.__init__" (defArgs s_Frame_init) (defBody s_Frame_init) (defScope s_Frame_init) .none kV4 dc4 pm4 an4 cd4 ct4), sl4⟩)
    (c4 : PySem.W.codeIn K cd4 "Frame.__init__" = true) (k4 : PySem.W.keepIn K (.ref f4) = true)
    {f5 : Addr} {od5 an5 : Option Addr} {sl5 : Array (Option Value)} {oc5 kV5 dc5 pm5 cd5 ct5 : Value}
    (a5 : PySem.W.findIn K (.ref cFrame) "__eq__" = some (some (.ref f5))) (b5 : PySem.W.isFn K (.ref f5) = true)
    (l5 : K.lookup f5 = some ⟨oc5, od5, .func (PySem.W.fnOf "__eq__" "Frame.__eq__" (defArgs s_Frame_eq) (defBody s_Frame_eq) (defScope s_Frame_eq) .none kV5 dc5 pm5 an5 cd5 ct5), sl5⟩)
    (c5 : PySem.W.codeIn K cd5 "Frame.__eq__" = true) (k5 : PySem.W.keepIn K (.ref f5) = true)
    {f6 : Addr} {od6 an6 : Option Addr} {sl6 : Array (Option Value)} {oc6 kV6 dc6 pm6 cd6 ct6 : Value}
    (a6 : PySem.W.nsIn K mainGlobals "are_hues" = some (some (.ref f6)))
    (l6 : K.lookup f6 = some ⟨oc6, od6, .func (PySem.W.fnOf "are_hues" "are_hues" (defArgs s_are_hues) (defBody s_are_hues) (defScope s_are_hues) .none kV6 dc6 pm6 an6 cd6 ct6), sl6⟩)
    (c6 : PySem.W.codeIn K cd6 "are_hues" = true) (k6 : PySem.W.keepIn K (.ref f6) = true)
    {f7 : Addr} {od7 an7 : Option Addr} {sl7 : Array (Option Value)} {oc7 kV7 dc7 pm7 cd7 ct7 : Value}
    (a7 : PySem.W.nsIn K mainGlobals "is_hue" = some (some (.ref f7)))
    (l7 : K.lookup f7 = some ⟨oc7, od7, .func (PySem.W.fnOf "is_hue" "is_hue" (defArgs s_is_hue) (defBody s_is_hue) (defScope s_is_hue) .none kV7 dc7 pm7 an7 cd7 ct7), sl7⟩)
    (c7 : PySem.W.codeIn K cd7 "is_hue" = true) (k7 : PySem.W.keepIn K (.ref f7) = true)
    {f8 : Addr} {od8 an8 : Option Addr} {sl8 : Array (Option Value)} {oc8 kV8 dc8 pm8 cd8 ct8 : Value}
    (a8 : PySem.W.nsIn K mainGlobals "is_coarser" = some (some (.ref f8)))
    (l8 : K.lookup f8 = some ⟨oc8, od8, .func (PySem.W.fnOf "is_coarser" "is_coarser" (defArgs s_is_coarser) (defBody s_is_coarser) (defScope s_is_coarser) .none kV8 dc8 pm8 an8 cd8 ct8), sl8⟩)
    (c8 : PySem.W.codeIn K cd8 "is_coarser" = true) (k8 : PySem.W.keepIn K (.ref f8) = true)
    {f9 : Addr} {od9 an9 : Option Addr} {sl9 : Array (Option Value)} {oc9 kV9 dc9 pm9 cd9 ct9 : Value}
    (a9 : PySem.W.nsIn K mainGlobals "refuse_no_coarser" = some (some (.ref f9)))
    (l9 : K.lookup f9 = some ⟨oc9, od9, .func (PySem.W.fnOf "refuse_no_coarser" "refuse_no_coarser" (defArgs s_refuse_no_coarser) (defBody s_refuse_no_coarser) (defScope s_refuse_no_coarser) .none kV9 dc9 pm9 an9 cd9 ct9), sl9⟩)
    (c9 : PySem.W.codeIn K cd9 "refuse_no_coarser" = true) (k9 : PySem.W.keepIn K (.ref f9) = true)
    {f10 : Addr} {od10 an10 : Option Addr} {sl10 : Array (Option Value)} {oc10 kV10 dc10 pm10 cd10 ct10 : Value}
    (a10 : PySem.W.nsIn K mainGlobals "rests" = some (some (.ref f10)))
    (l10 : K.lookup f10 = some ⟨oc10, od10, .func (PySem.W.fnOf "rests" "rests" (defArgs s_rests) (defBody s_rests) (defScope s_rests) .none kV10 dc10 pm10 an10 cd10 ct10), sl10⟩)
    (c10 : PySem.W.codeIn K cd10 "rests" = true) (k10 : PySem.W.keepIn K (.ref f10) = true)
    {f11 : Addr} {od11 an11 : Option Addr} {sl11 : Array (Option Value)} {oc11 kV11 dc11 pm11 cd11 ct11 : Value}
    (a11 : PySem.W.nsIn K mainGlobals "coarser_frame" = some (some (.ref f11)))
    (l11 : K.lookup f11 = some ⟨oc11, od11, .func (PySem.W.fnOf "coarser_frame" "coarser_frame" (defArgs s_coarser_frame) (defBody s_coarser_frame) (defScope s_coarser_frame) .none kV11 dc11 pm11 an11 cd11 ct11), sl11⟩)
    (c11 : PySem.W.codeIn K cd11 "coarser_frame" = true) (k11 : PySem.W.keepIn K (.ref f11) = true)
    {f12 : Addr} {od12 an12 : Option Addr} {sl12 : Array (Option Value)} {oc12 kV12 dc12 pm12 cd12 ct12 : Value}
    (a12 : PySem.W.nsIn K mainGlobals "coarser_place" = some (some (.ref f12)))
    (l12 : K.lookup f12 = some ⟨oc12, od12, .func (PySem.W.fnOf "coarser_place" "coarser_place" (defArgs s_coarser_place) (defBody s_coarser_place) (defScope s_coarser_place) .none kV12 dc12 pm12 an12 cd12 ct12), sl12⟩)
    (c12 : PySem.W.codeIn K cd12 "coarser_place" = true) (k12 : PySem.W.keepIn K (.ref f12) = true)
    {f13 : Addr} {od13 an13 : Option Addr} {sl13 : Array (Option Value)} {oc13 kV13 dc13 pm13 cd13 ct13 : Value}
    (a13 : PySem.W.nsIn K mainGlobals "coarser_table" = some (some (.ref f13)))
    (l13 : K.lookup f13 = some ⟨oc13, od13, .func (PySem.W.fnOf "coarser_table" "coarser_table" (defArgs s_coarser_table) (defBody s_coarser_table) (defScope s_coarser_table) .none kV13 dc13 pm13 an13 cd13 ct13), sl13⟩)
    (c13 : PySem.W.codeIn K cd13 "coarser_table" = true) (k13 : PySem.W.keepIn K (.ref f13) = true)
    {f14 : Addr} {od14 an14 : Option Addr} {sl14 : Array (Option Value)} {oc14 kV14 dc14 pm14 cd14 ct14 : Value}
    (a14 : PySem.W.nsIn K mainGlobals "coarser_turning" = some (some (.ref f14)))
    (l14 : K.lookup f14 = some ⟨oc14, od14, .func (PySem.W.fnOf "coarser_turning" "coarser_turning" (defArgs s_coarser_turning) (defBody s_coarser_turning) (defScope s_coarser_turning) .none kV14 dc14 pm14 an14 cd14 ct14), sl14⟩)
    (c14 : PySem.W.codeIn K cd14 "coarser_turning" = true) (k14 : PySem.W.keepIn K (.ref f14) = true)
    {f15 : Addr} {od15 an15 : Option Addr} {sl15 : Array (Option Value)} {oc15 kV15 dc15 pm15 cd15 ct15 : Value}
    (a15 : PySem.W.nsIn K mainGlobals "_law_hand" = some (some (.ref f15)))
    (l15 : K.lookup f15 = some ⟨oc15, od15, .func (PySem.W.fnOf "_law_hand" "_law_hand" (defArgs s__law_hand) (defBody s__law_hand) (defScope s__law_hand) .none kV15 dc15 pm15 an15 cd15 ct15), sl15⟩)
    (c15 : PySem.W.codeIn K cd15 "_law_hand" = true) (k15 : PySem.W.keepIn K (.ref f15) = true)
    {f16 : Addr} {od16 an16 : Option Addr} {sl16 : Array (Option Value)} {oc16 kV16 dc16 pm16 cd16 ct16 : Value}
    (a16 : PySem.W.nsIn K mainGlobals "_law_take" = some (some (.ref f16)))
    (l16 : K.lookup f16 = some ⟨oc16, od16, .func (PySem.W.fnOf "_law_take" "_law_take" (defArgs s__law_take) (defBody s__law_take) (defScope s__law_take) .none kV16 dc16 pm16 an16 cd16 ct16), sl16⟩)
    (c16 : PySem.W.codeIn K cd16 "_law_take" = true) (k16 : PySem.W.keepIn K (.ref f16) = true)
    {f17 : Addr} {od17 an17 : Option Addr} {sl17 : Array (Option Value)} {oc17 kV17 dc17 pm17 cd17 ct17 : Value}
    (a17 : PySem.W.nsIn K mainGlobals "_law_of" = some (some (.ref f17)))
    (l17 : K.lookup f17 = some ⟨oc17, od17, .func (PySem.W.fnOf "_law_of" "_law_of" (defArgs s__law_of) (defBody s__law_of) (defScope s__law_of) .none kV17 dc17 pm17 an17 cd17 ct17), sl17⟩)
    (c17 : PySem.W.codeIn K cd17 "_law_of" = true) (k17 : PySem.W.keepIn K (.ref f17) = true)
    {f18 : Addr} {od18 an18 : Option Addr} {sl18 : Array (Option Value)} {oc18 kV18 dc18 pm18 cd18 ct18 : Value}
    (a18 : PySem.W.nsIn K mainGlobals "_law_mixed" = some (some (.ref f18)))
    (l18 : K.lookup f18 = some ⟨oc18, od18, .func (PySem.W.fnOf "_law_mixed" "_law_mixed" (defArgs s__law_mixed) (defBody s__law_mixed) (defScope s__law_mixed) .none kV18 dc18 pm18 an18 cd18 ct18), sl18⟩)
    (c18 : PySem.W.codeIn K cd18 "_law_mixed" = true) (k18 : PySem.W.keepIn K (.ref f18) = true)
    {f19 : Addr} {od19 an19 : Option Addr} {sl19 : Array (Option Value)} {oc19 kV19 dc19 pm19 cd19 ct19 : Value}
    (a19 : PySem.W.nsIn K mainGlobals "_law_scale" = some (some (.ref f19)))
    (l19 : K.lookup f19 = some ⟨oc19, od19, .func (PySem.W.fnOf "_law_scale" "_law_scale" (defArgs s__law_scale) (defBody s__law_scale) (defScope s__law_scale) .none kV19 dc19 pm19 an19 cd19 ct19), sl19⟩)
    (c19 : PySem.W.codeIn K cd19 "_law_scale" = true) (k19 : PySem.W.keepIn K (.ref f19) = true)
    {f20 : Addr} {od20 an20 : Option Addr} {sl20 : Array (Option Value)} {oc20 kV20 dc20 pm20 cd20 ct20 : Value}
    (a20 : PySem.W.nsIn K mainGlobals "_law_colours" = some (some (.ref f20)))
    (l20 : K.lookup f20 = some ⟨oc20, od20, .func (PySem.W.fnOf "_law_colours" "_law_colours" (defArgs s__law_colours) (defBody s__law_colours) (defScope s__law_colours) .none kV20 dc20 pm20 an20 cd20 ct20), sl20⟩)
    (c20 : PySem.W.codeIn K cd20 "_law_colours" = true) (k20 : PySem.W.keepIn K (.ref f20) = true)
    {f21 : Addr} {od21 an21 : Option Addr} {sl21 : Array (Option Value)} {oc21 kV21 dc21 pm21 cd21 ct21 : Value}
    (a21 : PySem.W.nsIn K mainGlobals "_law_knot" = some (some (.ref f21)))
    (l21 : K.lookup f21 = some ⟨oc21, od21, .func (PySem.W.fnOf "_law_knot" "_law_knot" (defArgs s__law_knot) (defBody s__law_knot) (defScope s__law_knot) .none kV21 dc21 pm21 an21 cd21 ct21), sl21⟩)
    (c21 : PySem.W.codeIn K cd21 "_law_knot" = true) (k21 : PySem.W.keepIn K (.ref f21) = true)
    {f22 : Addr} {od22 an22 : Option Addr} {sl22 : Array (Option Value)} {oc22 kV22 dc22 pm22 cd22 ct22 : Value}
    (a22 : PySem.W.nsIn K mainGlobals "_law_grid" = some (some (.ref f22)))
    (l22 : K.lookup f22 = some ⟨oc22, od22, .func (PySem.W.fnOf "_law_grid" "_law_grid" (defArgs s__law_grid) (defBody s__law_grid) (defScope s__law_grid) .none kV22 dc22 pm22 an22 cd22 ct22), sl22⟩)
    (c22 : PySem.W.codeIn K cd22 "_law_grid" = true) (k22 : PySem.W.keepIn K (.ref f22) = true)
    {f23 : Addr} {od23 an23 : Option Addr} {sl23 : Array (Option Value)} {oc23 kV23 dc23 pm23 cd23 ct23 : Value}
    (a23 : PySem.W.nsIn K mainGlobals "_law_spot" = some (some (.ref f23)))
    (l23 : K.lookup f23 = some ⟨oc23, od23, .func (PySem.W.fnOf "_law_spot" "_law_spot" (defArgs s__law_spot) (defBody s__law_spot) (defScope s__law_spot) .none kV23 dc23 pm23 an23 cd23 ct23), sl23⟩)
    (c23 : PySem.W.codeIn K cd23 "_law_spot" = true) (k23 : PySem.W.keepIn K (.ref f23) = true)
    {f24 : Addr} {od24 an24 : Option Addr} {sl24 : Array (Option Value)} {oc24 kV24 dc24 pm24 cd24 ct24 : Value}
    (a24 : PySem.W.nsIn K mainGlobals "_law_leads" = some (some (.ref f24)))
    (l24 : K.lookup f24 = some ⟨oc24, od24, .func (PySem.W.fnOf "_law_leads" "_law_leads" (defArgs s__law_leads) (defBody s__law_leads) (defScope s__law_leads) .none kV24 dc24 pm24 an24 cd24 ct24), sl24⟩)
    (c24 : PySem.W.codeIn K cd24 "_law_leads" = true) (k24 : PySem.W.keepIn K (.ref f24) = true)
    {f25 : Addr} {od25 an25 : Option Addr} {sl25 : Array (Option Value)} {oc25 kV25 dc25 pm25 cd25 ct25 : Value}
    (a25 : PySem.W.nsIn K mainGlobals "_law_turning" = some (some (.ref f25)))
    (l25 : K.lookup f25 = some ⟨oc25, od25, .func (PySem.W.fnOf "_law_turning" "_law_turning" (defArgs s__law_turning) (defBody s__law_turning) (defScope s__law_turning) .none kV25 dc25 pm25 an25 cd25 ct25), sl25⟩)
    (c25 : PySem.W.codeIn K cd25 "_law_turning" = true) (k25 : PySem.W.keepIn K (.ref f25) = true)
    {f26 : Addr} {od26 an26 : Option Addr} {sl26 : Array (Option Value)} {oc26 kV26 dc26 pm26 cd26 ct26 : Value}
    (a26 : PySem.W.nsIn K mainGlobals "_law_near" = some (some (.ref f26)))
    (l26 : K.lookup f26 = some ⟨oc26, od26, .func (PySem.W.fnOf "_law_near" "_law_near" (defArgs s__law_near) (defBody s__law_near) (defScope s__law_near) .none kV26 dc26 pm26 an26 cd26 ct26), sl26⟩)
    (c26 : PySem.W.codeIn K cd26 "_law_near" = true) (k26 : PySem.W.keepIn K (.ref f26) = true)
    {f27 : Addr} {od27 an27 : Option Addr} {sl27 : Array (Option Value)} {oc27 kV27 dc27 pm27 cd27 ct27 : Value}
    (a27 : PySem.W.nsIn K mainGlobals "_law_bent" = some (some (.ref f27)))
    (l27 : K.lookup f27 = some ⟨oc27, od27, .func (PySem.W.fnOf "_law_bent" "_law_bent" (defArgs s__law_bent) (defBody s__law_bent) (defScope s__law_bent) .none kV27 dc27 pm27 an27 cd27 ct27), sl27⟩)
    (c27 : PySem.W.codeIn K cd27 "_law_bent" = true) (k27 : PySem.W.keepIn K (.ref f27) = true)
    {f28 : Addr} {od28 an28 : Option Addr} {sl28 : Array (Option Value)} {oc28 kV28 dc28 pm28 cd28 ct28 : Value}
    (a28 : PySem.W.nsIn K mainGlobals "_law_size" = some (some (.ref f28)))
    (l28 : K.lookup f28 = some ⟨oc28, od28, .func (PySem.W.fnOf "_law_size" "_law_size" (defArgs s__law_size) (defBody s__law_size) (defScope s__law_size) .none kV28 dc28 pm28 an28 cd28 ct28), sl28⟩)
    (c28 : PySem.W.codeIn K cd28 "_law_size" = true) (k28 : PySem.W.keepIn K (.ref f28) = true)
    {f29 : Addr} {od29 an29 : Option Addr} {sl29 : Array (Option Value)} {oc29 kV29 dc29 pm29 cd29 ct29 : Value}
    (a29 : PySem.W.nsIn K mainGlobals "_law_is_scale" = some (some (.ref f29)))
    (l29 : K.lookup f29 = some ⟨oc29, od29, .func (PySem.W.fnOf "_law_is_scale" "_law_is_scale" (defArgs s__law_is_scale) (defBody s__law_is_scale) (defScope s__law_is_scale) .none kV29 dc29 pm29 an29 cd29 ct29), sl29⟩)
    (c29 : PySem.W.codeIn K cd29 "_law_is_scale" = true) (k29 : PySem.W.keepIn K (.ref f29) = true)
    {f30 : Addr} {od30 an30 : Option Addr} {sl30 : Array (Option Value)} {oc30 kV30 dc30 pm30 cd30 ct30 : Value}
    (a30 : PySem.W.nsIn K mainGlobals "_law_due" = some (some (.ref f30)))
    (l30 : K.lookup f30 = some ⟨oc30, od30, .func (PySem.W.fnOf "_law_due" "_law_due" (defArgs s__law_due) (defBody s__law_due) (defScope s__law_due) .none kV30 dc30 pm30 an30 cd30 ct30), sl30⟩)
    (c30 : PySem.W.codeIn K cd30 "_law_due" = true) (k30 : PySem.W.keepIn K (.ref f30) = true)
    {f31 : Addr} {od31 an31 : Option Addr} {sl31 : Array (Option Value)} {oc31 kV31 dc31 pm31 cd31 ct31 : Value}
    (a31 : PySem.W.nsIn K mainGlobals "_law_asked" = some (some (.ref f31)))
    (l31 : K.lookup f31 = some ⟨oc31, od31, .func (PySem.W.fnOf "_law_asked" "_law_asked" (defArgs s__law_asked) (defBody s__law_asked) (defScope s__law_asked) .none kV31 dc31 pm31 an31 cd31 ct31), sl31⟩)
    (c31 : PySem.W.codeIn K cd31 "_law_asked" = true) (k31 : PySem.W.keepIn K (.ref f31) = true)
    {f32 : Addr} {od32 an32 : Option Addr} {sl32 : Array (Option Value)} {oc32 kV32 dc32 pm32 cd32 ct32 : Value}
    (a32 : PySem.W.nsIn K mainGlobals "_law_lessened" = some (some (.ref f32)))
    (l32 : K.lookup f32 = some ⟨oc32, od32, .func (PySem.W.fnOf "_law_lessened" "_law_lessened" (defArgs s__law_lessened) (defBody s__law_lessened) (defScope s__law_lessened) .none kV32 dc32 pm32 an32 cd32 ct32), sl32⟩)
    (c32 : PySem.W.codeIn K cd32 "_law_lessened" = true) (k32 : PySem.W.keepIn K (.ref f32) = true)
    {f33 : Addr} {od33 an33 : Option Addr} {sl33 : Array (Option Value)} {oc33 kV33 dc33 pm33 cd33 ct33 : Value}
    (a33 : PySem.W.nsIn K mainGlobals "_law_doors_right" = some (some (.ref f33)))
    (l33 : K.lookup f33 = some ⟨oc33, od33, .func (PySem.W.fnOf "_law_doors_right" "_law_doors_right" (defArgs s__law_doors_right) (defBody s__law_doors_right) (defScope s__law_doors_right) .none kV33 dc33 pm33 an33 cd33 ct33), sl33⟩)
    (c33 : PySem.W.codeIn K cd33 "_law_doors_right" = true) (k33 : PySem.W.keepIn K (.ref f33) = true)
    {f34 : Addr} {od34 an34 : Option Addr} {sl34 : Array (Option Value)} {oc34 kV34 dc34 pm34 cd34 ct34 : Value}
    (a34 : PySem.W.nsIn K mainGlobals "_law_items" = some (some (.ref f34)))
    (l34 : K.lookup f34 = some ⟨oc34, od34, .func (PySem.W.fnOf "_law_items" "_law_items" (defArgs s__law_items) (defBody s__law_items) (defScope s__law_items) .none kV34 dc34 pm34 an34 cd34 ct34), sl34⟩)
    (c34 : PySem.W.codeIn K cd34 "_law_items" = true) (k34 : PySem.W.keepIn K (.ref f34) = true)
    {f35 : Addr} {od35 an35 : Option Addr} {sl35 : Array (Option Value)} {oc35 kV35 dc35 pm35 cd35 ct35 : Value}
    (a35 : PySem.W.nsIn K mainGlobals "_law_right" = some (some (.ref f35)))
    (l35 : K.lookup f35 = some ⟨oc35, od35, .func (PySem.W.fnOf "_law_right" "_law_right" (defArgs s__law_right) (defBody s__law_right) (defScope s__law_right) .none kV35 dc35 pm35 an35 cd35 ct35), sl35⟩)
    (c35 : PySem.W.codeIn K cd35 "_law_right" = true) (k35 : PySem.W.keepIn K (.ref f35) = true)
    {f36 : Addr} {od36 an36 : Option Addr} {sl36 : Array (Option Value)} {oc36 kV36 dc36 pm36 cd36 ct36 : Value}
    (a36 : PySem.W.nsIn K mainGlobals "law" = some (some (.ref f36)))
    (l36 : K.lookup f36 = some ⟨oc36, od36, .func (PySem.W.fnOf "law" "law" (defArgs s_law) (defBody s_law) (defScope s_law) .none kV36 dc36 pm36 an36 cd36 ct36), sl36⟩)
    (c36 : PySem.W.codeIn K cd36 "law" = true) (k36 : PySem.W.keepIn K (.ref f36) = true)
    {cNoFrame : Addr} (pxNoFrame : PySem.W.nsIn K mainGlobals "NoFrame" = some (some (.ref cNoFrame)))
    {cNoHue : Addr} (pxNoHue : PySem.W.nsIn K mainGlobals "NoHue" = some (some (.ref cNoHue)))
    {cNoMeasure : Addr} (pxNoMeasure : PySem.W.nsIn K mainGlobals "NoMeasure" = some (some (.ref cNoMeasure)))
    {cNoNumber : Addr} (pxNoNumber : PySem.W.nsIn K mainGlobals "NoNumber" = some (some (.ref cNoNumber)))
    {cNoTimes : Addr} (pxNoTimes : PySem.W.nsIn K mainGlobals "NoTimes" = some (some (.ref cNoTimes)))
    {cTooMany : Addr} (pxTooMany : PySem.W.nsIn K mainGlobals "TooMany" = some (some (.ref cTooMany)))
    {cTurnError : Addr} (pxTurnError : PySem.W.nsIn K mainGlobals "TurnError" = some (some (.ref cTurnError)))
    {fINoMeasure : Addr} {cdaNoMeasure : Addr} {ccNoMeasure : Addr} {ocNoMeasure : Value} {kVNoMeasure : Value} {dcNoMeasure : Value} {pmNoMeasure : Value} {ctNoMeasure : Value} {cclNoMeasure : Value} {clNoMeasure : Value} {odNoMeasure : Option Addr} {anNoMeasure : Option Addr} {cddNoMeasure : Option Addr} {cldNoMeasure : Option Addr} {oslNoMeasure : Array (Option Value)} {ccsNoMeasure : Array (Option Value)} {cslNoMeasure : Array (Option Value)} {vsNoMeasure : Array Value} {fileNoMeasure : Str} {tfNoMeasure : Tok} {cdDNoMeasure : ClassData} 
    (xqNoMeasure : PySem.W.excInitIn K cNoMeasure We.veB "ValueError.__new__" = true)
    (xiNoMeasure : PySem.W.findIn K (.ref cNoMeasure) "__init__" = some (some (.ref fINoMeasure)))
    (xfNoMeasure : PySem.W.isFn K (.ref fINoMeasure) = true)
    (xlNoMeasure : K.lookup fINoMeasure = some ⟨ocNoMeasure, odNoMeasure, .func (PySem.W.ksFn "__init__" "NoMeasure.__init__" (defArgs (inS 6 0)) (defBody (inS 6 0)) (defScope (inS 6 0)) .none kVNoMeasure dcNoMeasure pmNoMeasure anNoMeasure (.ref cdaNoMeasure) ctNoMeasure ccNoMeasure), oslNoMeasure⟩)
    (xcNoMeasure : PySem.W.codeIn K (.ref cdaNoMeasure) "NoMeasure.__init__" = true)
    (xdNoMeasure : K.lookup cdaNoMeasure = some ⟨cclNoMeasure, cddNoMeasure, .fields vsNoMeasure, ccsNoMeasure⟩)
    (xvNoMeasure : vsNoMeasure[2]? = some (.str fileNoMeasure tfNoMeasure))
    (xwNoMeasure : ((l.prog.main.file : Str) == fileNoMeasure) = true)
    (xeNoMeasure : K.lookup ccNoMeasure = some ⟨clNoMeasure, cldNoMeasure, .cell (some (.ref cNoMeasure)), cslNoMeasure⟩)
    (xDNoMeasure : PySem.W.clsIn K cNoMeasure = some cdDNoMeasure)
    (xsNoMeasure : PySem.W.mroIn K cNoMeasure (.ref cNoMeasure) = some true)
    (xtNoMeasure : (l.prog.main.scope.names.lookup ("super" : Str)).isSome = false)
    (xmNoMeasure : PySem.W.ks_superIn K cNoMeasure cNoMeasure "__init__" = some (some (.builtin "ValueError.__init__")))
    (xBNoMeasure : PySem.W.subIn K (.ref cNoMeasure) (.type "ValueError") = some true)
    (xoNoMeasure : PySem.W.nsIn K cStatics "thirdparty.any" = some none)
    (xaNoMeasure : PySem.W.findIn K (.ref cNoMeasure) "__setattr__" = some (some (.builtin "object.__setattr__")))
    (xONoMeasure : PySem.W.excOver K cNoMeasure We.veB = true)
    (xTNoMeasure : PySem.W.takerIn K cNoMeasure "thing" = some none)
    (xENoMeasure : PySem.W.subIn K (.ref cNoMeasure) (.type "BaseException") = some true)
    (xYNoMeasure : PySem.W.typeIn K (.ref cNoMeasure) = some (.type "type"))
    (xkNoMeasure : PySem.W.keepIn K (.ref cNoMeasure) = true)
    (xgNoMeasure : PySem.W.findIn K (.ref cNoMeasure) "__getattribute__" = some (some (.builtin "BaseException.__getattribute__")))
    (xhNoMeasure : PySem.W.findIn K (.ref cNoMeasure) "__getattr__" = some none)
    (xHNoMeasure : PySem.W.hasDictIn K cNoMeasure = true)
    (xCNoMeasure : PySem.W.findIn K (.ref cNoMeasure) "__class__" = some (some (.builtin "object.__class__")))
    (xGNoMeasure : PySem.W.specialIn K (.builtin "object.__class__") "__get__" = some (some (.builtin "getset_descriptor.__get__")))
    (xKNoMeasure : PySem.W.takesIn K (.builtin "object.__class__") = some true)
    (xMNoMeasure : PySem.W.mroIn K cNoMeasure (.type "object") = some true)
    (xNNoMeasure : PySem.W.findIn K (.ref cNoMeasure) "thing" = some none)
    (ex_NoMeasure : PySem.W.exmOne K (.ref cNoMeasure) (.ref cTurnError) = some true)
    (kk_NoMeasure_NoFrame_NoHue_NoNumber_NoTimes_TooMany : PySem.W.kitAny K (.ref cNoMeasure) [.ref cNoFrame, .ref cNoHue, .ref cNoNumber, .ref cNoTimes, .ref cTooMany] = some false)
    (kk_NoMeasure_NoMeasure : PySem.W.kitOne K (.ref cNoMeasure) (.ref cNoMeasure) = some true)
    {t0 : Tok} (v0 : PySem.W.nsIn K mainGlobals "LEAST_NUMBER" = some (some (.int 2 t0)))
    {t1 : Tok} (v1 : PySem.W.nsIn K mainGlobals "LEAST_STEMS" = some (some (.int 2 t1)))
    {t2 : Tok} (v2 : PySem.W.nsIn K mainGlobals "MOST_HUE" = some (some (.int 9 t2)))
    {t3 : Tok} (v3 : PySem.W.nsIn K mainGlobals "MOST_NUMBER" = some (some (.int 5 t3)))
    {t4 : Tok} (v4 : PySem.W.nsIn K mainGlobals "MOST_NUMBERS" = some (some (.int 3 t4)))
    {t5 : Tok} (v5 : PySem.W.nsIn K mainGlobals "MOST_STEMS" = some (some (.int 16 t5)))
    {t6 : Tok} (v6 : PySem.W.nsIn K mainGlobals "MOST_TIES" = some (some (.int 30 t6)))
    (z0 : PySem.W.nsIn K mainGlobals "abs" = some none)
    (z1 : PySem.W.nsIn K mainGlobals "all" = some none)
    (z2 : PySem.W.nsIn K mainGlobals "bool" = some none)
    (z3 : PySem.W.nsIn K mainGlobals "dict" = some none)
    (z4 : PySem.W.nsIn K mainGlobals "int" = some none)
    (z5 : PySem.W.nsIn K mainGlobals "isinstance" = some none)
    (z6 : PySem.W.nsIn K mainGlobals "len" = some none)
    (z7 : PySem.W.nsIn K mainGlobals "list" = some none)
    (z8 : PySem.W.nsIn K mainGlobals "max" = some none)
    (z9 : PySem.W.nsIn K mainGlobals "min" = some none)
    (z10 : PySem.W.nsIn K mainGlobals "range" = some none)
    (z11 : PySem.W.nsIn K mainGlobals "repr" = some none)
    (z12 : PySem.W.nsIn K mainGlobals "str" = some none)
    (z13 : PySem.W.nsIn K mainGlobals "super" = some none)
    (z14 : PySem.W.nsIn K mainGlobals "tuple" = some none)
    (z15 : PySem.W.nsIn K mainGlobals "zip" = some none)
    {cl__law_doors_right pt__law_doors_right : Addr} (ec__law_doors_right : cd33 = .ref cl__law_doors_right) (ti__law_doors_right : PySem.W.tabIn K "_law_doors_right" = some (cl__law_doors_right, pt__law_doors_right)) (np__law_doors_right : K.lookup pt__law_doors_right = none)
    (tm__law_doors_right : (pt__law_doors_right, (("_law_doors_right" : Str) ++ ".<locals>." ++ "<lambda>")) ∈ Wt.tabs) (tu__law_doors_right : ∀ p ∈ Wt.tabs, p.1 = pt__law_doors_right → p.2 = (("_law_doors_right" : Str) ++ ".<locals>." ++ "<lambda>"))
    (tb_all : ∀ t ∈ Wt.tabs, ∃ p ∈ ([(cl__law_doors_right, pt__law_doors_right)] : List (Addr × Addr)), p.2 = t.1)
    : ∃ (fd : FuncData) (cs : List (Addr × Addr)), (∀ p ∈ cs, ∃ y ∈ (["_law_doors_right"] : List Str), PySem.W.tabIn K y = some p) ∧ (∀ p ∈ cs, K.lookup p.2 = none) ∧ (∀ t ∈ Wt.tabs, ∃ p ∈ cs, p.2 = t.1) ∧ (∀ (s : Shared) (v : Value), BindsTo s fd ⟨[v], []⟩ [("_law_script", v)]) ∧
      ∀ base : Heap, K.In base → base.Ns mainGlobals mg → (∀ p ∈ cs, LamX.TabB base mg p.1 p.2) → FnG l.prog w K mg base CX0 17 fa fd ["_law_script"] (SpP K preLaw0 fun _ => .bl true) := by
  have F_is_whole := fun_mk (st := s_is_whole) l0 c0 k0
  have g_is_whole := PySem.W.mg_of X G a0
  have F_is_within := fun_mk (st := s_is_within) l1 c1 k1
  have g_is_within := PySem.W.mg_of X G a1
  have F_product := fun_mk (st := s_product) l2 c2 k2
  have g_product := PySem.W.mg_of X G a2
  have F_is_measure := fun_mk (st := s_is_measure) l3 c3 k3
  have g_is_measure := PySem.W.mg_of X G a3
  have F_Frame_init := fun_mk (st := s_Frame_init) l4 c4 k4
  have M_Frame : Mk K cFrame f4 := ⟨q0m, a4, b4, q0k⟩
  have F_Frame_eq := fun_mk (st := s_Frame_eq) l5 c5 k5
  have e_Frame_eq : Meth K cFrame "__eq__" f5 := ⟨a5, b5, k5⟩
  have F_are_hues := fun_mk (st := s_are_hues) l6 c6 k6
  have g_are_hues := PySem.W.mg_of X G a6
  have F_is_hue := fun_mk (st := s_is_hue) l7 c7 k7
  have g_is_hue := PySem.W.mg_of X G a7
  have F_is_coarser := fun_mk (st := s_is_coarser) l8 c8 k8
  have g_is_coarser := PySem.W.mg_of X G a8
  have F_refuse_no_coarser := fun_mk (st := s_refuse_no_coarser) l9 c9 k9
  have g_refuse_no_coarser := PySem.W.mg_of X G a9
  have F_rests := fun_mk (st := s_rests) l10 c10 k10
  have g_rests := PySem.W.mg_of X G a10
  have F_coarser_frame := fun_mk (st := s_coarser_frame) l11 c11 k11
  have g_coarser_frame := PySem.W.mg_of X G a11
  have F_coarser_place := fun_mk (st := s_coarser_place) l12 c12 k12
  have g_coarser_place := PySem.W.mg_of X G a12
  have F_coarser_table := fun_mk (st := s_coarser_table) l13 c13 k13
  have g_coarser_table := PySem.W.mg_of X G a13
  have F_coarser_turning := fun_mk (st := s_coarser_turning) l14 c14 k14
  have g_coarser_turning := PySem.W.mg_of X G a14
  have F__law_hand := fun_mk (st := s__law_hand) l15 c15 k15
  have g__law_hand := PySem.W.mg_of X G a15
  have F__law_take := fun_mk (st := s__law_take) l16 c16 k16
  have g__law_take := PySem.W.mg_of X G a16
  have F__law_of := fun_mk (st := s__law_of) l17 c17 k17
  have g__law_of := PySem.W.mg_of X G a17
  have F__law_mixed := fun_mk (st := s__law_mixed) l18 c18 k18
  have g__law_mixed := PySem.W.mg_of X G a18
  have F__law_scale := fun_mk (st := s__law_scale) l19 c19 k19
  have g__law_scale := PySem.W.mg_of X G a19
  have F__law_colours := fun_mk (st := s__law_colours) l20 c20 k20
  have g__law_colours := PySem.W.mg_of X G a20
  have F__law_knot := fun_mk (st := s__law_knot) l21 c21 k21
  have g__law_knot := PySem.W.mg_of X G a21
  have F__law_grid := fun_mk (st := s__law_grid) l22 c22 k22
  have g__law_grid := PySem.W.mg_of X G a22
  have F__law_spot := fun_mk (st := s__law_spot) l23 c23 k23
  have g__law_spot := PySem.W.mg_of X G a23
  have F__law_leads := fun_mk (st := s__law_leads) l24 c24 k24
  have g__law_leads := PySem.W.mg_of X G a24
  have F__law_turning := fun_mk (st := s__law_turning) l25 c25 k25
  have g__law_turning := PySem.W.mg_of X G a25
  have F__law_near := fun_mk (st := s__law_near) l26 c26 k26
  have g__law_near := PySem.W.mg_of X G a26
  have F__law_bent := fun_mk (st := s__law_bent) l27 c27 k27
  have g__law_bent := PySem.W.mg_of X G a27
  have F__law_size := fun_mk (st := s__law_size) l28 c28 k28
  have g__law_size := PySem.W.mg_of X G a28
  have F__law_is_scale := fun_mk (st := s__law_is_scale) l29 c29 k29
  have g__law_is_scale := PySem.W.mg_of X G a29
  have F__law_due := fun_mk (st := s__law_due) l30 c30 k30
  have g__law_due := PySem.W.mg_of X G a30
  have F__law_asked := fun_mk (st := s__law_asked) l31 c31 k31
  have g__law_asked := PySem.W.mg_of X G a31
  have F__law_lessened := fun_mk (st := s__law_lessened) l32 c32 k32
  have g__law_lessened := PySem.W.mg_of X G a32
  have F__law_doors_right := fun_mk (st := s__law_doors_right) l33 c33 k33
  have g__law_doors_right := PySem.W.mg_of X G a33
  have F__law_items := fun_mk (st := s__law_items) l34 c34 k34
  have g__law_items := PySem.W.mg_of X G a34
  have F__law_right := fun_mk (st := s__law_right) l35 c35 k35
  have g__law_right := PySem.W.mg_of X G a35
  have F_law := fun_mk (st := s_law) l36 c36 k36
  have g_law := PySem.W.mg_of X G a36
  have g_Frame := PySem.W.mg_of X G p0
  have k_Frame : Own2 K cFrame "measure" "hues" := ⟨⟨q0g, q0h, q0o, q0s⟩, q0x, q0y⟩
  have n_Frame : NeK K cFrame := ⟨q0ne, q0ob, q0ha, q0hn, q0ht, q0hm, q0me⟩
  have c_LEAST_NUMBER := PySem.W.mg_of X G v0
  have c_LEAST_STEMS := PySem.W.mg_of X G v1
  have c_MOST_HUE := PySem.W.mg_of X G v2
  have c_MOST_NUMBER := PySem.W.mg_of X G v3
  have c_MOST_NUMBERS := PySem.W.mg_of X G v4
  have c_MOST_STEMS := PySem.W.mg_of X G v5
  have c_MOST_TIES := PySem.W.mg_of X G v6
  have m_abs := PySem.W.mg_none_of X G z0
  have m_all := PySem.W.mg_none_of X G z1
  have m_bool := PySem.W.mg_none_of X G z2
  have m_dict := PySem.W.mg_none_of X G z3
  have m_int := PySem.W.mg_none_of X G z4
  have m_isinstance := PySem.W.mg_none_of X G z5
  have m_len := PySem.W.mg_none_of X G z6
  have m_list := PySem.W.mg_none_of X G z7
  have m_max := PySem.W.mg_none_of X G z8
  have m_min := PySem.W.mg_none_of X G z9
  have m_range := PySem.W.mg_none_of X G z10
  have m_repr := PySem.W.mg_none_of X G z11
  have m_str := PySem.W.mg_none_of X G z12
  have m_super := PySem.W.mg_none_of X G z13
  have m_tuple := PySem.W.mg_none_of X G z14
  have m_zip := PySem.W.mg_none_of X G z15
  have g_NoFrame := PySem.W.mg_of X G pxNoFrame
  have g_NoHue := PySem.W.mg_of X G pxNoHue
  have g_NoMeasure := PySem.W.mg_of X G pxNoMeasure
  have g_NoNumber := PySem.W.mg_of X G pxNoNumber
  have g_NoTimes := PySem.W.mg_of X G pxNoTimes
  have g_TooMany := PySem.W.mg_of X G pxTooMany
  have g_TurnError := PySem.W.mg_of X G pxTurnError
  have x_NoMeasure := We.ex_of (P := l.prog) (mg := mg) xb_NoMeasure m_super xqNoMeasure xiNoMeasure xfNoMeasure xlNoMeasure xcNoMeasure xdNoMeasure xvNoMeasure xwNoMeasure xeNoMeasure xDNoMeasure xsNoMeasure xtNoMeasure xmNoMeasure xBNoMeasure xoNoMeasure xaNoMeasure xONoMeasure xTNoMeasure xENoMeasure xYNoMeasure xkNoMeasure xgNoMeasure xhNoMeasure xHNoMeasure xCNoMeasure xGNoMeasure xKNoMeasure xMNoMeasure xNNoMeasure
  have e := hfa.symm.trans g_law
  cases e
  refine ⟨PySem.W.fnOf "law" "law" (defArgs s_law) (defBody s_law) (defScope s_law) .none kV36 dc36 pm36 an36 cd36 ct36, [(cl__law_doors_right, pt__law_doors_right)], ?h1, ?h2, tb_all, fun s v => .of_eq rfl, fun base _ _ TB => ?_⟩
  case h1 =>
    refine List.forall_mem_cons.mpr ⟨⟨Str.ofString "_law_doors_right", by simp, ti__law_doors_right⟩, fun _ h => nomatch h⟩
  case h2 =>
    refine List.forall_mem_cons.mpr ⟨np__law_doors_right, fun _ h => nomatch h⟩
  have hc_lam__law_doors_right := ec__law_doors_right
  have tm_lam__law_doors_right := tm__law_doors_right
  have tu_lam__law_doors_right := tu__law_doors_right
  have TB_lam__law_doors_right := TB (cl__law_doors_right, pt__law_doors_right) (by simp)
  have G_is_whole := ok_is_whole (P := l.prog) (w := w) (mg := mg) (base := base) F_is_whole m_bool m_int m_isinstance
  have G_product := ok_product (P := l.prog) (w := w) (mg := mg) (base := base) F_product
  have G_Frame_eq := ok_Frame_eq (P := l.prog) (w := w) (mg := mg) (base := base) F_Frame_eq k_Frame n_Frame g_Frame m_isinstance
  have G_rests := ok_rests (P := l.prog) (w := w) (mg := mg) (base := base) F_rests m_tuple m_zip
  have G__law_hand := ok__law_hand (P := l.prog) (w := w) (mg := mg) (base := base) F__law_hand m_abs m_int m_len
  have G__law_take := ok__law_take (P := l.prog) (w := w) (mg := mg) (base := base) F__law_take
  have G__law_size := ok__law_size (P := l.prog) (w := w) (mg := mg) (base := base) F__law_size
  have GV__law_asked := gv__law_asked (P := l.prog) (w := w) (mg := mg) (base := base) F__law_asked x_NoMeasure g_NoFrame g_NoHue g_NoMeasure g_NoNumber g_NoTimes g_TooMany g_TurnError ex_NoMeasure kk_NoMeasure_NoFrame_NoHue_NoNumber_NoTimes_TooMany kk_NoMeasure_NoMeasure m_isinstance
  have G__law_lessened := ok__law_lessened (P := l.prog) (w := w) (mg := mg) (base := base) F__law_lessened m_tuple m_zip
  have G_is_within := ok_is_within (P := l.prog) (w := w) (mg := mg) (base := base) F_is_within F_is_whole G_is_whole g_is_whole
  have G__law_of := ok__law_of (P := l.prog) (w := w) (mg := mg) (base := base) F__law_of F__law_take G__law_take g__law_take m_len
  have G__law_mixed := ok__law_mixed (P := l.prog) (w := w) (mg := mg) (base := base) F__law_mixed F__law_take G__law_take g__law_take m_len m_list
  have G__law_knot := ok__law_knot (P := l.prog) (w := w) (mg := mg) (base := base) F__law_knot F__law_take G__law_take g__law_take m_tuple
  have G__law_is_scale := ok__law_is_scale (P := l.prog) (w := w) (mg := mg) (base := base) F__law_is_scale F__law_size G__law_size g__law_size m_bool m_int m_isinstance m_len m_tuple
  have G_is_measure := ok_is_measure (P := l.prog) (w := w) (mg := mg) (base := base) F_is_measure F_is_within G_is_within g_is_within F_product G_product g_product c_LEAST_NUMBER c_MOST_NUMBER c_MOST_NUMBERS c_MOST_TIES m_all m_isinstance m_len m_tuple
  have G_is_hue := ok_is_hue (P := l.prog) (w := w) (mg := mg) (base := base) F_is_hue F_is_within G_is_within g_is_within c_MOST_HUE
  have G__law_scale := ok__law_scale (P := l.prog) (w := w) (mg := mg) (base := base) F__law_scale F__law_of G__law_of g__law_of
  have G__law_colours := ok__law_colours (P := l.prog) (w := w) (mg := mg) (base := base) F__law_colours F__law_take G__law_take g__law_take F__law_of G__law_of g__law_of m_range m_tuple
  have G__law_grid := ok__law_grid (P := l.prog) (w := w) (mg := mg) (base := base) F__law_grid F__law_take G__law_take g__law_take F__law_knot G__law_knot g__law_knot m_len m_range m_tuple
  have G__law_spot := ok__law_spot (P := l.prog) (w := w) (mg := mg) (base := base) F__law_spot F__law_knot G__law_knot g__law_knot m_len m_range m_tuple
  have G__law_leads := ok__law_leads (P := l.prog) (w := w) (mg := mg) (base := base) F__law_leads F__law_mixed G__law_mixed g__law_mixed m_dict m_len m_range m_tuple
  have G__law_near := ok__law_near (P := l.prog) (w := w) (mg := mg) (base := base) F__law_near F__law_of G__law_of g__law_of m_bool m_int m_isinstance m_list m_str m_tuple
  have G__law_due := ok__law_due (P := l.prog) (w := w) (mg := mg) (base := base) F__law_due F__law_is_scale G__law_is_scale g__law_is_scale m_all m_len m_zip
  have G_are_hues := ok_are_hues (P := l.prog) (w := w) (mg := mg) (base := base) F_are_hues F_is_within G_is_within g_is_within F_is_hue G_is_hue g_is_hue c_LEAST_STEMS c_MOST_STEMS m_all m_isinstance m_len m_tuple
  have G_is_coarser := ok_is_coarser (P := l.prog) (w := w) (mg := mg) (base := base) F_is_coarser F_is_measure G_is_measure g_is_measure m_all m_len m_zip
  have G__law_turning := ok__law_turning (P := l.prog) (w := w) (mg := mg) (base := base) F__law_turning F__law_grid G__law_grid g__law_grid F__law_leads G__law_leads g__law_leads m_len
  have G_Frame_init := ok_Frame_init (P := l.prog) (w := w) (mg := mg) (base := base) F_Frame_init F_is_measure G_is_measure g_is_measure F_are_hues G_are_hues g_are_hues k_Frame
  have G_refuse_no_coarser := ok_refuse_no_coarser (P := l.prog) (w := w) (mg := mg) (base := base) F_refuse_no_coarser F_is_coarser G_is_coarser g_is_coarser k_Frame x_NoMeasure g_NoMeasure
  have G_coarser_place := ok_coarser_place (P := l.prog) (w := w) (mg := mg) (base := base) F_coarser_place F_refuse_no_coarser G_refuse_no_coarser g_refuse_no_coarser F_rests G_rests g_rests
  have G_coarser_table := ok_coarser_table (P := l.prog) (w := w) (mg := mg) (base := base) F_coarser_table F_refuse_no_coarser G_refuse_no_coarser g_refuse_no_coarser F_rests G_rests g_rests m_tuple
  have G_coarser_frame := ok_coarser_frame (P := l.prog) (w := w) (mg := mg) (base := base) F_coarser_frame F_Frame_init G_Frame_init F_refuse_no_coarser G_refuse_no_coarser g_refuse_no_coarser M_Frame g_Frame k_Frame
  have G_coarser_turning := ok_coarser_turning (P := l.prog) (w := w) (mg := mg) (base := base) F_coarser_turning F_coarser_table G_coarser_table g_coarser_table
  have G__law_doors_right := ok__law_doors_right (P := l.prog) (w := w) (mg := mg) (base := base) F__law_doors_right F_Frame_init G_Frame_init F_Frame_eq G_Frame_eq F_coarser_frame G_coarser_frame g_coarser_frame F_coarser_place G_coarser_place g_coarser_place F_coarser_table G_coarser_table g_coarser_table F_coarser_turning G_coarser_turning g_coarser_turning F__law_take G__law_take g__law_take F__law_grid G__law_grid g__law_grid F__law_spot G__law_spot g__law_spot F__law_turning G__law_turning g__law_turning F__law_due G__law_due g__law_due F__law_asked GV__law_asked g__law_asked F__law_lessened G__law_lessened g__law_lessened M_Frame g_Frame k_Frame e_Frame_eq n_Frame g_Frame m_len m_repr m_tuple hc_lam__law_doors_right TB_lam__law_doors_right tm_lam__law_doors_right tu_lam__law_doors_right
  have G__law_bent := ok__law_bent (P := l.prog) (w := w) (mg := mg) (base := base) F__law_bent F__law_take G__law_take g__law_take F__law_near G__law_near g__law_near m_isinstance m_len m_tuple g__law_bent
  have G__law_items := ok__law_items (P := l.prog) (w := w) (mg := mg) (base := base) F__law_items F__law_bent G__law_bent g__law_bent m_list m_range
  have G__law_right := ok__law_right (P := l.prog) (w := w) (mg := mg) (base := base) F__law_right F_is_coarser G_is_coarser g_is_coarser F__law_take G__law_take g__law_take F__law_scale G__law_scale g__law_scale F__law_colours G__law_colours g__law_colours F__law_due G__law_due g__law_due F__law_doors_right G__law_doors_right g__law_doors_right F__law_items G__law_items g__law_items m_repr
  exact ok_law F_law F__law_hand G__law_hand g__law_hand F__law_right G__law_right g__law_right m_all m_len m_max m_min m_range
end Wl
open PySem PySem.W PyProof.Rows
set_option maxHeartbeats 0 in
theorem PySem.Challenge.cw_wholeturn_k51_coarser_or_not_holds : PySem.Challenge.rw_wholeturn_k51_coarser_or_not.Holds := by
  refine HdL.hd ?_
  k_fill
  refine Wt.walkGT (l := PySem.Challenge.rw_wholeturn_k51_coarser_or_not) (n := 63) (k := 17) (x := "_law_script")
    (sp := fun K => (Wt.SpP K Wl.preLaw0 fun _ => .bl true)) rfl (by decide) rfl ⟨rfl, by decide, by decide⟩
    (fun w h Y => PySem.W.km_in_of Y) ["_law_doors_right"] (List.forall_mem_cons.mpr ⟨⟨_, rfl⟩, fun _ h => nomatch h⟩) ?F (fun _ _ _ _ _ hO hT hS => Wt.law_startT hO hT hS)
  case F =>
    intro w mg fa h KX G hmg
    refine' Wl.all_mk (cl__law_doors_right := 392) (pt__law_doors_right := 390) KX G hmg ?p0 ?q0g ?q0h ?q0o ?q0s ?q0m ?q0k ?q0x ?q0y ?q0ne ?q0ob ?q0ha ?q0hn ?q0ht ?q0hm ?q0me ?a0 ?l0 ?c0 ?k0 ?a1 ?l1 ?c1 ?k1 ?a2 ?l2 ?c2 ?k2 ?a3 ?l3 ?c3 ?k3 ?a4 ?b4 ?l4 ?c4 ?k4 ?a5 ?b5 ?l5 ?c5 ?k5 ?a6 ?l6 ?c6 ?k6 ?a7 ?l7 ?c7 ?k7 ?a8 ?l8 ?c8 ?k8 ?a9 ?l9 ?c9 ?k9 ?a10 ?l10 ?c10 ?k10 ?a11 ?l11 ?c11 ?k11 ?a12 ?l12 ?c12 ?k12 ?a13 ?l13 ?c13 ?k13 ?a14 ?l14 ?c14 ?k14 ?a15 ?l15 ?c15 ?k15 ?a16 ?l16 ?c16 ?k16 ?a17 ?l17 ?c17 ?k17 ?a18 ?l18 ?c18 ?k18 ?a19 ?l19 ?c19 ?k19 ?a20 ?l20 ?c20 ?k20 ?a21 ?l21 ?c21 ?k21 ?a22 ?l22 ?c22 ?k22 ?a23 ?l23 ?c23 ?k23 ?a24 ?l24 ?c24 ?k24 ?a25 ?l25 ?c25 ?k25 ?a26 ?l26 ?c26 ?k26 ?a27 ?l27 ?c27 ?k27 ?a28 ?l28 ?c28 ?k28 ?a29 ?l29 ?c29 ?k29 ?a30 ?l30 ?c30 ?k30 ?a31 ?l31 ?c31 ?k31 ?a32 ?l32 ?c32 ?k32 ?a33 ?l33 ?c33 ?k33 ?a34 ?l34 ?c34 ?k34 ?a35 ?l35 ?c35 ?k35 ?a36 ?l36 ?c36 ?k36 ?pxNoFrame ?pxNoHue ?pxNoMeasure ?pxNoNumber ?pxNoTimes ?pxTooMany ?pxTurnError ?xqNoMeasure ?xiNoMeasure ?xfNoMeasure ?xlNoMeasure ?xcNoMeasure ?xdNoMeasure ?xvNoMeasure ?xwNoMeasure ?xeNoMeasure ?xDNoMeasure ?xsNoMeasure ?xtNoMeasure ?xmNoMeasure ?xBNoMeasure ?xoNoMeasure ?xaNoMeasure ?xONoMeasure ?xTNoMeasure ?xENoMeasure ?xYNoMeasure ?xkNoMeasure ?xgNoMeasure ?xhNoMeasure ?xHNoMeasure ?xCNoMeasure ?xGNoMeasure ?xKNoMeasure ?xMNoMeasure ?xNNoMeasure ?ex_NoMeasure ?kk_NoMeasure_NoFrame_NoHue_NoNumber_NoTimes_TooMany ?kk_NoMeasure_NoMeasure ?v0 ?v1 ?v2 ?v3 ?v4 ?v5 ?v6 ?z0 ?z1 ?z2 ?z3 ?z4 ?z5 ?z6 ?z7 ?z8 ?z9 ?z10 ?z11 ?z12 ?z13 ?z14 ?z15 ?ec__law_doors_right ?ti__law_doors_right ?np__law_doors_right ?tm__law_doors_right ?tu__law_doors_right ?tb_all
    (case p0 => k_is); (case q0g => k_is); (case q0h => k_is); (case q0o => k_is); (case q0s => k_is); (case q0m => k_is); (case q0k => k_is); (case q0x => k_is); (case q0y => k_is); (case q0ne => k_is); (case q0ob => k_is); (case q0ha => k_is); (case q0hn => k_is); (case q0ht => k_is); (case q0hm => k_is); (case q0me => first | k_is | rfl | decide +kernel); (case a0 => k_is); (case l0 => k_is); (case c0 => k_is); (case k0 => k_is); (case a1 => k_is); (case l1 => k_is); (case c1 => k_is); (case k1 => k_is); (case a2 => k_is); (case l2 => k_is); (case c2 => k_is); (case k2 => k_is); (case a3 => k_is); (case l3 => k_is); (case c3 => k_is); (case k3 => k_is); (case a4 => k_is); (case b4 => k_is); (case l4 => k_is); (case c4 => k_is); (case k4 => k_is); (case a5 => k_is); (case b5 => k_is); (case l5 => k_is); (case c5 => k_is); (case k5 => k_is); (case a6 => k_is); (case l6 => k_is); (case c6 => k_is); (case k6 => k_is); (case a7 => k_is); (case l7 => k_is); (case c7 => k_is); (case k7 => k_is); (case a8 => k_is); (case l8 => k_is); (case c8 => k_is); (case k8 => k_is); (case a9 => k_is); (case l9 => k_is); (case c9 => k_is); (case k9 => k_is); (case a10 => k_is); (case l10 => k_is); (case c10 => k_is); (case k10 => k_is); (case a11 => k_is); (case l11 => k_is); (case c11 => k_is); (case k11 => k_is); (case a12 => k_is); (case l12 => k_is); (case c12 => k_is); (case k12 => k_is); (case a13 => k_is); (case l13 => k_is); (case c13 => k_is); (case k13 => k_is); (case a14 => k_is); (case l14 => k_is); (case c14 => k_is); (case k14 => k_is); (case a15 => k_is); (case l15 => k_is); (case c15 => k_is); (case k15 => k_is); (case a16 => k_is); (case l16 => k_is); (case c16 => k_is); (case k16 => k_is); (case a17 => k_is); (case l17 => k_is); (case c17 => k_is); (case k17 => k_is); (case a18 => k_is); (case l18 => k_is); (case c18 => k_is); (case k18 => k_is); (case a19 => k_is); (case l19 => k_is); (case c19 => k_is); (case k19 => k_is); (case a20 => k_is); (case l20 => k_is); (case c20 => k_is); (case k20 => k_is); (case a21 => k_is); (case l21 => k_is); (case c21 => k_is); (case k21 => k_is); (case a22 => k_is); (case l22 => k_is); (case c22 => k_is); (case k22 => k_is); (case a23 => k_is); (case l23 => k_is); (case c23 => k_is); (case k23 => k_is); (case a24 => k_is); (case l24 => k_is); (case c24 => k_is); (case k24 => k_is); (case a25 => k_is); (case l25 => k_is); (case c25 => k_is); (case k25 => k_is); (case a26 => k_is); (case l26 => k_is); (case c26 => k_is); (case k26 => k_is); (case a27 => k_is); (case l27 => k_is); (case c27 => k_is); (case k27 => k_is); (case a28 => k_is); (case l28 => k_is); (case c28 => k_is); (case k28 => k_is); (case a29 => k_is); (case l29 => k_is); (case c29 => k_is); (case k29 => k_is); (case a30 => k_is); (case l30 => k_is); (case c30 => k_is); (case k30 => k_is); (case a31 => k_is); (case l31 => k_is); (case c31 => k_is); (case k31 => k_is); (case a32 => k_is); (case l32 => k_is); (case c32 => k_is); (case k32 => k_is); (case a33 => k_is); (case l33 => k_is); (case c33 => k_is); (case k33 => k_is); (case a34 => k_is); (case l34 => k_is); (case c34 => k_is); (case k34 => k_is); (case a35 => k_is); (case l35 => k_is); (case c35 => k_is); (case k35 => k_is); (case a36 => k_is); (case l36 => k_is); (case c36 => k_is); (case k36 => k_is); (case pxNoFrame => k_is); (case pxNoHue => k_is); (case pxNoMeasure => k_is); (case pxNoNumber => k_is); (case pxNoTimes => k_is); (case pxTooMany => k_is); (case pxTurnError => k_is); (case xqNoMeasure => kernel_rfl); (case xiNoMeasure => k_is); (case xfNoMeasure => k_is); (case xlNoMeasure => k_is); (case xcNoMeasure => k_is); (case xdNoMeasure => k_is); (case xvNoMeasure => rfl); (case xwNoMeasure => first | rfl | decide +kernel); (case xeNoMeasure => k_is); (case xDNoMeasure => k_is); (case xsNoMeasure => k_is); (case xtNoMeasure => first | rfl | decide +kernel); (case xmNoMeasure => kernel_rfl); (case xBNoMeasure => k_is); (case xoNoMeasure => k_is); (case xaNoMeasure => k_is); (case xONoMeasure => kernel_rfl); (case xTNoMeasure => k_is); (case xENoMeasure => k_is); (case xYNoMeasure => k_is); (case xkNoMeasure => k_is); (case xgNoMeasure => k_is); (case xhNoMeasure => k_is); (case xHNoMeasure => k_is); (case xCNoMeasure => k_is); (case xGNoMeasure => k_is); (case xKNoMeasure => k_is); (case xMNoMeasure => k_is); (case xNNoMeasure => k_is); (case ex_NoMeasure => kernel_rfl); (case kk_NoMeasure_NoFrame_NoHue_NoNumber_NoTimes_TooMany => first | k_is | rfl | decide +kernel); (case kk_NoMeasure_NoMeasure => first | k_is | rfl | decide +kernel); (case v0 => k_is); (case v1 => k_is); (case v2 => k_is); (case v3 => k_is); (case v4 => k_is); (case v5 => k_is); (case v6 => k_is); (case z0 => k_is); (case z1 => k_is); (case z2 => k_is); (case z3 => k_is); (case z4 => k_is); (case z5 => k_is); (case z6 => k_is); (case z7 => k_is); (case z8 => k_is); (case z9 => k_is); (case z10 => k_is); (case z11 => k_is); (case z12 => k_is); (case z13 => k_is); (case z14 => k_is); (case z15 => k_is); (case ec__law_doors_right => first | rfl | k_is); (case ti__law_doors_right => kernel_rfl); (case np__law_doors_right => first | k_is | kernel_rfl); (case tm__law_doors_right => rw [Wt.tabs_nil]; decide +kernel); (case tu__law_doors_right => rw [Wt.tabs_nil]; decide +kernel); (case tb_all => rw [Wt.tabs_nil]; decide +kernel)

