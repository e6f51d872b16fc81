import PyProof.Rows.All
import Wide.All
import OpenK.AllK
import Wide.FinOn
import KE.KEqNest
import KE.KRevSl
import HandS.ForMost
import HandS.IsInst
import HandS.TupAny
import HandS.TupMul
import HandS.Star
import HandS.FStr
import HandS.Flow
import HandS.Conv
import HandS.Codes
import HandS.RaiseMore
import HandS.Style
import HandS.StrMore
import PySem.Challenge.RW_rankloop_k61_words_and_worths
set_option Elab.async false
set_option linter.all false
set_option maxRecDepth 100000
set_option maxHeartbeats 4000000
namespace My
open PySem L2 PyProof.Rows
theorem iteN {c A B : Prop} [Decidable c] (hc : ¬ c) (h : B) : if decide c = true then A else B := by
  rw [decide_eq_false hc]
  exact iteF h
theorem iteY {c A B : Prop} [Decidable c] (hc : c) (h : A) : if decide c = true then A else B := by
  rw [decide_eq_true hc]
  exact iteT h
theorem iteB0 {b : Bool} {A B : Prop} (hb : b = false) (h : B) : if b = true then A else B := by
  rw [hb]
  exact iteF h
theorem iteB1 {b : Bool} {A B : Prop} (hb : b = true) (h : A) : if b = true then A else B := by
  rw [hb]
  exact iteT h
theorem Same.new {H H' : Hp} {p : Addr} {o : HO} (s : Same H H') (h : H' p = none) : Same H (upd H' p o) := fun b u e => by
  have e' := s b u e
  rw [upd_ne (ne_of_none e' h)]
  exact e'
theorem asg_of {te : TE} {g : TG} {b : TS} {D : Ends} {σ : L2.St} {H : Hp} (h : te σ H fun x H1 => g x σ H1 fun σ2 H2 => b D σ2 H2) : tSeq (tAsg te g) b D σ H := h
theorem lst_of {t : TA} {σ : L2.St} {H : Hp} {Q : VK} (h : t σ H fun xs H1 => xs.length ≤ sizeLine ∧ ∀ p, H1 p = none → Q (.ref p) (upd H1 p (.lst xs))) : tLst t σ H Q := h
theorem cons_of {ta : TE} {tr : TA} {σ : L2.St} {H : Hp} {Q : List V → Hp → Prop} (h : ta σ H fun x H1 => tr σ H1 fun xs H2 => Q (x :: xs) H2) : tCons ta tr σ H Q := h
theorem nx_of {a b : TS} {D : Ends} {r : VK} {k c : L2.St → Hp → Prop} {σ : L2.St} {H : Hp} (h : tSeq a b D σ H) : Ends.nx { nx := tSeq a b D, rt := r, bk := k, ct := c } σ H := h
section
variable {X : Cx}
/-! ### a tuple against (), a list against [] -/
def rEqT0 (K : PySem.W.Frag) : R2 := fun x y H Q => ∃ a b xs, x = .ref a ∧ y = .ref b ∧ SqT K H a xs ∧ SqT K H b [] ∧ Q (.bl xs.isEmpty) H
theorem op_eqT0 (hu : X.A.units + 64 < cLine) : OpR X (compareOp .Eq) (rEqT0 X.K) := by
  intro pins s σ H x y v u Q I rx ry h
  obtain ⟨a, b, xs, rfl, rfl, ha, hb, q⟩ := h
  cases (show v = Value.ref a from rx)
  cases (show u = Value.ref b from ry)
  obtain ⟨its, r1, p1, _⟩ := I.tuple ha
  obtain ⟨its2, r2, p2, _⟩ := I.tuple hb
  cases r2
  refine PySem.W.eq_tuplesT (n := 0) (e := fun _ => true) p1 p2 (fun j h1 h2 => absurd h2 (by simp)) (by omega) ⟨.bl xs.isEmpty, H, I, ?_, q⟩
  have hl := r1.length
  show Value.bool _ = Value.bool _
  cases xs with
  | nil =>
    cases r1
    rfl
  | cons x xs =>
    cases its with
    | nil => cases r1
    | cons i is => simp
def rEqL0 (K : PySem.W.Frag) : R2 := fun x y H Q => ∃ a b xs, x = .ref a ∧ y = .ref b ∧ SqL K H a xs ∧ SqL K H b [] ∧ Q (.bl xs.isEmpty) H
theorem op_eqL0 (hu : X.A.units + 64 < cLine) : OpR X (compareOp .Eq) (rEqL0 X.K) := by
  intro pins s σ H x y v u Q I rx ry h
  obtain ⟨a, b, xs, rfl, rfl, ha, hb, q⟩ := h
  cases (show v = Value.ref a from rx)
  cases (show u = Value.ref b from ry)
  obtain ⟨its, r1, p1, _⟩ := I.list ha
  obtain ⟨its2, r2, p2, _⟩ := I.list hb
  cases r2
  cases xs with
  | nil =>
    cases r1
    exact PySem.W.eq_listsT (n := 0) (e := fun _ => true) p1.isList p2.isList rfl (fun j h1 h2 => absurd h2 (by simp)) (by omega) ⟨.bl true, H, I, rfl, q⟩
  | cons x xs =>
    cases its with
    | nil => cases r1
    | cons i is => exact SeqAt.eq_list_lengthsAt p1.isList p2.isList (by simp) (by omega) ⟨.bl false, H, I, rfl, q⟩
/-! ### t * 1 -/
theorem tuple_mul1 (l : Addr) (items : Array Value) (n : Nat) (dd : Option Addr) (sl : Array (Option Value)) (u : Tok) :
    Meets (Builtin.«tuple.__mul__» ⟨[.ref l, .int 1 u], []⟩) (fun _ R s => s.heap.get? l = some { cls := .type "tuple", dict := dd, data := .seq items n, slots := sl } ∧ R (.ok (.ret (Value.ref l))) s) :=
  .of_wp fun prog w A R s h => by
    obtain ⟨hp, g, d, tk, os⟩ := s
    obtain ⟨hl, h⟩ := h
    have f1 := AutoSeq1.idx_int
    wp_walk using wpAny_loadPart' hl
    exact ⟨_, rfl, h⟩
def rRepA (K : PySem.W.Frag) : R2 := fun x y H Q => ∃ l k xs, x = .ref l ∧ y = .int k ∧ SqT K H l xs ∧ xs ≠ [] ∧ 1 ≤ k ∧ k ≤ 1000 ∧ xs.length ≤ 1000 ∧
  (k = 1 → Q (.ref l) H) ∧ (2 ≤ k → ∀ p, H p = none → Q (.ref p) (upd H p (.tup (List.replicate k.toNat xs).flatten)))
theorem op_repA : OpR X (binaryOp .Mult) (rRepA X.K) := by
  intro pins s σ H x y v u Q I rx ry h
  obtain ⟨l, k, xs, rfl, rfl, hT, hne, h1, h2, hz, q1, q2⟩ := h
  by_cases hk : k = 1
  · subst hk
    cases rx
    obtain ⟨t, rfl⟩ := ry
    obtain ⟨its, r, ⟨⟨cls, dd, data, sl⟩, ho, hc, n, hd⟩, hs⟩ := I.tuple hT
    simp only at hc hd
    subst hc hd
    exact wpAny_binaryOp_repeat_ref (T := "tuple") (U := "int") (by decide) ⟨_, ho, rfl⟩ (fun s' => typeIs_int s' 1 t) noFill_tuple_mul F.fills_int_mul F.slot_int_rmul repeat_tuple F.slot_int_index.lookup
      (call_meets F.slot_int_rmul (typeIs_int s 1 t) F.entry_int_rmul (F.args_int_rmul_2 _ _) (int_rmul_tuple 1 t l its.toArray n dd sl)
        ⟨ho, rfl, ⟨_, ho, rfl⟩, call_meets F.slot_tuple_mul ⟨_, ho, rfl⟩ F.entry_tuple_mul (F.args_tuple_mul_2 _ _) (tuple_mul1 l its.toArray n dd sl t) ⟨ho, .ref l, H, I, rfl, q1 rfl⟩⟩)
  · exact op_repT pins s σ H _ _ v u Q I rx ry ⟨l, k, xs, rfl, rfl, hT, hne, by omega, h2, hz, q2 (by omega)⟩
/-! ### t[::-1] -/
theorem applied_rev {prog : Program} {w : World} {A : Around} {E : Value → Shared → Prop} {s : Shared} {sl : Addr} {vl vu vs : Value} {n : Nat} {Q : Int × Int × Nat → Shared → Prop} (hs : s.heap.IsSliceOf sl vl vu vs) (pl : IsPart vl none) (pu : IsPart vu none) (ps : IsPart vs (some (-1)))
    (h : Q ((n : Int) - 1, -1, n) s) : wpAny (model prog w) A (Builtin.Slice.sliceApplied (.ref sl) (pure (n : Int))) Q E s := by
  obtain ⟨os, hos, hcs, hds⟩ := id hs
  unfold Builtin.Slice.sliceApplied Builtin.Slice.sliceFields
  refine wpAny_bind (wpAny_bind (wpAny_field hos hds (x := vl) rfl (wpAny_bind (wpAny_field hos hds (x := vu) rfl (wpAny_bind (wpAny_field hos hds (x := vs) rfl (wpAny_pure ?_)))))))
  refine wpAny_bind (HT.slicePart_ ps ?_)
  show wpAny _ _ (if ((-1 : Int) == 0) = true then _ else _) _ _ s
  rw [if_neg (by decide)]
  refine wpAny_bind (HT.slicePart_ pl (wpAny_bind (HT.slicePart_ pu (wpAny_bind (wpAny_pure ?_)))))
  show wpAny _ _ (pure ((n : Int) - 1, (-1 : Int), Builtin.Slice.slicePlaces ((n : Int) - 1) (-1) (-1))) _ _ s
  have e : Builtin.Slice.slicePlaces ((n : Int) - 1) (-1) (-1) = n := by
    unfold Builtin.Slice.slicePlaces
    rw [if_neg (by decide)]
    by_cases hn : (n : Int) - 1 > -1
    · rw [if_pos hn, show (- -1 : Int) = 1 by decide, Int.ediv_one]; omega
    · rw [if_neg hn]; omega
  rw [e]
  exact wpAny_pure h
theorem pick_rev (xs : Array Value) : ((List.range xs.size).filterMap fun (m : Nat) => xs[((xs.size : Int) - 1 + (m : Int) * (-1)).toNat]?).toArray = xs.toList.reverse.toArray := by
  have e : ((List.range xs.size).filterMap fun (m : Nat) => xs[((xs.size : Int) - 1 + (m : Int) * (-1)).toNat]?) = ((List.range xs.size).map fun k => xs.size - 1 - k).filterMap (xs[·]?) := by
    rw [List.filterMap_map]
    refine congrArg (fun g => List.filterMap g (List.range xs.size)) ?_
    funext m
    show xs[((xs.size : Int) - 1 + (m : Int) * (-1)).toNat]? = xs[xs.size - 1 - m]?
    exact congrArg (fun z => xs[z]?) (by omega)
  rw [e, PySem.W.krv_range, List.filterMap_reverse, PySem.W.krv_all]
theorem item_rev {prog : Program} {w : World} {A : Around} {E : Value → Shared → Prop} {s : Shared} {t sl : Addr} {items : Array Value} {vl vu vs : Value} {Q : Value → Shared → Prop} (ht : IsTup s.heap t items) (hs : s.heap.IsSliceOf sl vl vu vs) (pl : IsPart vl none) (pu : IsPart vu none) (ps : IsPart vs (some (-1)))
    (h : Q (.ref s.heap.objs.size) { s with heap := s.heap.push { cls := .type "tuple", data := .seq items.toList.reverse.toArray } }) (hz : items.size ≤ sizeLine) : wpAny (model prog w) A (getItem (.ref t) (.ref sl)) Q E s := by
  have fits : sizeOk (.seq items.toList.reverse.toArray) := by
    show items.toList.reverse.toArray.size ≤ sizeLine
    rw [List.size_toArray, List.length_reverse, Array.length_toList]
    exact hz
  obtain ⟨os, hos, hcs, hds⟩ := id hs
  have hTs : s.TypeIs (.ref sl) "slice" := ⟨os, hos, hcs⟩
  unfold getItem
  try with_reducible refine wpAny_holding ?_
  first | refine wpAny_bind (wpAny_pure ?_) | skip
  refine wpAny_bind (wpAny_sequenceKey ht.typeIs (by decide) ?_)
  refine wpAny_bind (wpAny_callSpecial?_slot (name := Str.ofString "__getitem__") ht.typeIs PyProof.Rows.slot_tuple_getitem (wpAny_call_entry PyProof.Rows.slot_tuple_getitem ht.typeIs entry_tuple_getitem ?_ (args_tuple_getitem _ _)))
  show wpAny _ _ (Builtin.Tuple.tupleItemsOf (.ref t) >>= _) _ _ s
  refine wpAny_bind (tupleItemsOf_ ht ?_)
  refine wpAny_bind (wpAny_typeOf hTs ?_)
  rw [if_pos (by decide)]
  refine wpAny_bind (applied_rev hs pl pu ps ?_)
  have hno : ¬ (((items.size : Int) - 1 == 0 && (-1 : Int) == 1 && items.size == items.size) = true) := by simp
  show wpAny _ _ (if ((items.size : Int) - 1 == 0 && (-1 : Int) == 1 && items.size == items.size) = true then _ else _) _ _ s
  rw [if_neg hno, pick_rev]
  first
    | exact wpAny_bind (m := Builtin.Tuple.tupleExact _) (wpAny_newObj_type (wpAny_pure ⟨_, rfl, wpAny_pure h⟩) fits)
    | exact wpAny_bind (m := Builtin.Tuple.tupleExact _) (wpAny_newObj_type (wpAny_bind (wpAny_pure (wpAny_pure ⟨_, rfl, wpAny_pure h⟩))) fits)
    | exact wpAny_bind (wpAny_bind (m := Builtin.Tuple.tupleExact _) (wpAny_newObj_type (wpAny_pure (wpAny_pure ⟨_, rfl, wpAny_pure h⟩)) fits))
    | exact wpAny_bind (wpAny_bind (m := Builtin.Tuple.tupleExact _) (wpAny_newObj_type (wpAny_pure ⟨_, rfl, wpAny_pure h⟩) fits))
def tRevT (K : PySem.W.Frag) (te : TE) : TE := fun σ H Q => te σ H fun x H1 => ∃ a xs, x = .ref a ∧ SqT K H1 a xs ∧ ∀ p, H1 p = none → Q (.ref p) (upd H1 p (.tup xs.reverse))
theorem pe_revT {e : Expr} {te : TE} {k : Nat} {p1 p2 p3 pos : Pos} (he : PE X e te) : PE X (.Subscript e (.Slice none none (some (.UnaryOp .USub (.Constant (.int 1) k p1) p2)) p3) pos) (tRevT X.K te) := by
  refine ⟨fun pins s σ H Q I h => ?_⟩
  refine Subscript_ (thn (he.run pins s σ H _ I h) fun v s1 ⟨x, H1, I1, r1, q1⟩ => ?_)
  obtain ⟨a, xs, ex, hx, q⟩ := q1
  subst ex
  cases r1
  have hst : PO X (some (.UnaryOp .USub (.Constant (.int 1) k p1) p2)) (tPart (tUn (rU fun i => .int (-i)) (tC (.int 1)))) := po_some (pe_un un_neg pe_int)
  refine wpAny_Slice (thn (po_none.run pins s1 σ H1 (fun o H2 => o = none ∧ H2 = H1) I1 ⟨rfl, rfl⟩) fun vl s2 ⟨l, H2, I2, pl, el, e2⟩ => ?_)
  subst el e2
  refine thn (po_none.run pins s2 σ H2 (fun o H3 => o = none ∧ H3 = H2) I2 ⟨rfl, rfl⟩) fun vu s3 ⟨u, H3, I3, pu, eu, e3⟩ => ?_
  subst eu e3
  refine thn (hst.run pins s3 σ H3 (fun o H4 => o = some (-1) ∧ H4 = H3) I3 ⟨1, rfl, -1, rfl, rfl, rfl⟩) fun vs s4 ⟨o, H4, I4, ps, eo, e4⟩ => ?_
  subst eo e4
  have I5 : Inv X pins σ H4 { s4 with heap := s4.heap.push { cls := .type "slice", data := .fields #[vl, vu, vs] } } := I4.kept (t' := s4.toks) fun b ob q => Heap.get?_push_of_some _ q
  obtain ⟨its, r, ht, hz⟩ := I5.tuple hx
  have hlen := r.length
  show wpAny (model X.prog X.w) X.A (subscriptTail e (.Slice none none (some (.UnaryOp .USub (.Constant (.int 1) k p1) p2)) p3) (.ref a) (.ref s4.heap.objs.size)) (EP X pins σ Q) X.xe { s4 with heap := s4.heap.push { cls := .type "slice", data := .fields #[vl, vu, vs] } }
  refine tail_any (ops := [.ref a, .ref s4.heap.objs.size]) ht.typeIs (PyProof.Rows.slot_tuple_getitem.lookup) ?_ (by with_unfolding_all rfl)
  refine item_rev ht (Heap.IsSliceOf.new _ vl vu vs) pl pu ps ?_ (by rw [List.size_toArray]; omega)
  refine ⟨.ref _, _, I5.laid (t' := s4.toks) (o := .tup xs.reverse) (fun b ob q => Heap.get?_push_of_some _ q) (Nat.le_refl _) ?_, rfl, q _ (I5.hok.fresh (Nat.le_refl _))⟩
  exact ⟨by rw [List.length_reverse]; exact hz, _, r.reverse, IsTup.new _ _⟩
/-! ### a def called by names alone -/
theorem pe_kw0 {CX : CXT} {k : Nat} {f : Addr} {fd : FuncData} {ps ks : List Str} {sp : Sp} {E : XK} {x : Str} {p pos : Pos} {kws : List Keyword} {tk : TA} {g : List Value → List Value → List Value} {gV : List V → List V → List V}
    (F : FnOk X.prog X.w X.K X.mg X.base CX k f fd ps sp) (hr : Room k X.A) (hg : Gl X x) (hm : X.mg x = some (.ref f)) (hk : PySem.W.keepIn X.K (.ref f) = true) (hb : KBinds X.K fd ps ks g gV) (hx : Passes CX X E) (hkw : PK X kws tk)
    (hall : (backToKw pos (keywordEach kws X.env)).all (·.1.isSome) = true := by rfl) (hks : (backToKw pos (keywordEach kws X.env)).filterMap (·.1) = ks := by rfl) (hdb : (x == ("__debug__" : Str)) = false := by decide)
    (hpl : ((backTo pos (starEach [] X.env)).any (·.1) || (backToKw pos (keywordEach kws X.env)).any (·.1.isNone)) = false := by rfl) :
    PE X (.Call (.Name x p) [] kws pos) (tCallK sp gV E tNil tk) := by
  refine ⟨fun pins s σ H Q I h => ?_⟩
  refine wpAny_Call_Name_kw (ld_glob I hg hm ?_ hdb)
  refine PySem.W.callWith_KW0 (h₀ := X.base) I.ok.mod.kin hk hall ?_ hpl
  refine thn (hkw.run pos pins s σ H _ I h) fun ws s2 ⟨zs, H2, I2, rz, q2⟩ => ⟨I2.kIn, ?_⟩
  rw [hks]
  exact run_fnk (us := []) (vs := []) F hr hb hx I2 .nil rz q2
/-! ### a comprehension over a text -/
theorem lc_str {x : Str} {g : TG} {tt : TT} {te : TE} {vs : List Nat} {σ : L2.St} {H1 : Hp} {D : Addr} {Qd : Hp → Prop} (Pv : Nat → Hp → Prop) (h0 : Pv 0 (upd H1 D (.lst [])))
    (hs : ∀ i c H, x.cps[i]? = some c → Pv i H → g (.str ⟨#[c]⟩) (wipe σ vs) H fun σ2 H2 => wipe σ2 vs = wipe σ vs ∧ tt σ2 H2 fun b H3 =>
      if b = true then te σ2 H3 fun y H4 => ∃ acc, H4 D = some (.lst acc) ∧ acc.length < sizeLine ∧ Pv (i + 1) (upd H4 D (.lst (acc ++ [y]))) else Pv (i + 1) H3) (hd : ∀ H, Pv x.cps.size H → Qd H) :
    ∃ W : Nat → Nat → Hp → Prop, (∃ m, W 0 m (upd H1 D (.lst []))) ∧ ∀ i m H, W i m H →
      ((Its x).stop i H ∧ Qd H) ∨ ((Its x).go i H ∧ ∃ Nx : Hp → Prop, (∀ H', Nx H' → ∃ m', m' < m ∧ W (i + 1) m' H') ∧ ∀ y H', (Its x).yld i H y H' → g y (wipe σ vs) H' fun σ2 H2 => wipe σ2 vs = wipe σ vs ∧ tt σ2 H2 fun b H3 =>
        if b = true then te σ2 H3 fun y H4 => ∃ acc, H4 D = some (.lst acc) ∧ acc.length < sizeLine ∧ Nx (upd H4 D (.lst (acc ++ [y]))) else Nx H3) := by
  refine ⟨fun i m H => m = x.cps.size - i ∧ i ≤ x.cps.size ∧ Pv i H, ⟨_, rfl, Nat.zero_le _, h0⟩, ?_⟩
  rintro i m H ⟨rfl, hi, p⟩
  by_cases hlt : i < x.cps.size
  · refine .inr ⟨hlt, Pv (i + 1), fun H' p' => ⟨x.cps.size - (i + 1), by omega, rfl, hlt, p'⟩, fun y H' hy => ?_⟩
    obtain ⟨rfl, c, hc, rfl⟩ := hy
    exact hs i c _ hc p
  · have e : i = x.cps.size := by omega
    subst e
    exact .inl ⟨Nat.le_refl _, hd _ p⟩
end
end My

set_option Elab.async false
set_option linter.all false
set_option maxRecDepth 100000
set_option maxHeartbeats 4000000
namespace My
open PySem L2 PyProof.Rows
/-- repr of a list that is read as plain data; the def is called where nothing else is being shown -/
theorem call_reprL {X : Cx} (hg : X.A.guards = some []) (hu : X.A.units + 64 < cLine) : CallR X (.builtin "repr") (fun xs H Q => ∃ a d, xs = [.ref a] ∧ Dp X.K H (.ref a) d ∧ d.showable = true ∧ d.hasDict = false ∧ d.depth ≤ 60 ∧ d.shown.length ≤ sizeLine ∧ Q (.str d.shown) H) := by
  intro pins s σ H xs us Q I r h
  obtain ⟨a, d, rfl, hd, h1, h2, h3, h4, q⟩ := h
  obtain ⟨u, rfl, ru⟩ := vals1 r
  cases (show u = Value.ref a from ru)
  obtain ⟨as, rd⟩ := Dp.reads I d _ _ hd rfl
  exact repr_of_reads' rd h1 (PyData.noDict_hsm h2) hg (by omega) (fun _ _ e => e) (fun h' u tk hk => ⟨.str _, H, I.kept (t' := tk) hk, ⟨_, rfl⟩, q⟩) h4
/-- a def's promise where nothing is being shown around it -/
structure FnG (P : Program) (w : World) (K : PySem.W.Frag) (mg : Str → Option Value) (base : Heap) (k : Nat) (f : Addr) (fd : FuncData) (ps : List Str) (sp : Sp) : Prop where
  run : ∀ (A : Around) (outer : List Env) (s : Shared) (H : Hp) (args : Args) (us : List Value) (vs : List V) (Q : VK) (E : XK), A.guards = some [] → Room k A → Env0 P w K mg base A outer s H → BindsTo s fd args (ps.zip us) → Vals vs us → sp vs H Q E →
    codeAny (model P w) A (.call (.ref f) args) (CR CX0 outer P w H s Q E) s
theorem okG {P : Program} {w : World} {K : PySem.W.Frag} {mg : Str → Option Value} {base : Heap} {x qual : Str} {st : Stmt} {f : Addr} {fd : FuncData} {N ps : List Str} {k : Nat} {sp : Sp} (F : Fun K x qual st f fd) (S : FnScope N ps (defScope st)) (len : ∀ vs H Q E, sp vs H Q E → vs.length = ps.length)
    (hbody : ∀ (cdv : Value) (A : Around) (outer : List Env) (s : Shared) (H : Hp) (vs : List V) (Q : VK) (E : XK), A.guards = some [] → Room k (A.deeper (envOfC qual (defScope st) s.heap.objs.size f cdv)) → sp vs H Q E →
      ∃ t, PSs (cxOf CX0 P w K mg base N qual (defScope st) f cdv A outer s H E).nox (defBody st) t ∧ t { nx := fun _ H' => Q .non H', rt := Q } (start N vs) H) : FnG P w K mg base (k + 1) f fd ps sp := by
  refine ⟨fun A outer s H args us vs Q E hg => ?_⟩
  obtain ⟨oc, od, kV, doc, pm, an, cdv, ct, osl, rfl, lk, hcd⟩ := F.ex
  intro hr e0 hb r hsp
  have hl := len _ _ _ _ hsp
  have KX : K.In s.heap := e0.mod.kin.keeps fun b o e => (e0.bs b o e).1
  have lim : s.heap.NoLimit := e0.mod.nolimit.keeps fun b o e => (e0.bs b o e).1
  have kinds : ∀ y ∈ ps.zip us, (defScope st).names.lookup y.1 = some .local ∨ ((defScope st).names.lookup y.1 = some .cell ∧ ((cellsFrom (s.heap.objs.size + 1) (defScope st).names []).lookup y.1).isSome = true) := by
    rintro ⟨n, v⟩ hy
    rcases S.par n (List.of_mem_zip hy).1 with q | q
    · exact .inl q
    · exact .inr ⟨q, PySem.W.cellsFrom_some _ _ _ (.inl q)⟩
  refine codeAny_call_function hr.depth (KX _ _ lk) rfl S.co S.gen rfl (PySem.W.codeRec_of KX hcd) (hb _ _ _ _ ?_)
  refine wpAny_newFunctionEnv_cells S.kind kinds fun env he s1 x => ?_
  subst he
  refine ⟨lim.keeps x.toInCall.keep, codeAny_func ?_⟩
  obtain ⟨t, ht0, hq⟩ := hbody cdv A outer s H vs Q E hg (hr.deeper _) hsp
  have ht := ht0.nox
  have I : Inv (cxOf CX0 P w K mg base N qual (defScope st) f cdv A outer s H E) [] (start N vs) H s1 := inv_start S hr.hd e0 hl r x
  refine wpAny_mono (ht.run [] s1 (start N vs) H _ I hq) (fun fl s' hs => ?_) fun e s' hs => hs
  have fin : ∀ {σ' : L2.St} {H' : Hp} {v : V} {u : Value}, Inv (cxOf CX0 P w K mg base N qual (defScope st) f cdv A outer s H E) [] σ' H' s' → RelV v u → Q v H' → CE outer P w H s Q u s' := fun {σ' H' v u} J rv q =>
    ⟨v, H', J.os, J.bare, J.base, J.hok, rv, q⟩
  cases fl with
  | ret u =>
    obtain ⟨v, σ', H', J, rv, q⟩ := hs
    exact fin J rv q
  | next =>
    obtain ⟨σ', H', J, q⟩ := hs
    exact fin (v := V.non) (u := Value.none) J rfl q
  | brk =>
    obtain ⟨σ', H', J, q⟩ := hs
    exact q.elim
  | cont =>
    obtain ⟨σ', H', J, q⟩ := hs
    exact q.elim
/-- the law's call, from such a promise -/
theorem law_callG {P : Program} {w : World} {K : PySem.W.Frag} {mg mb : Str → Option Value} {k : Nat} {fa a : Addr} {fd : FuncData} {x : Str} {sp : Sp} {s1 : Shared} {vs : List Value} {ns : List Int}
    (KX : K.In s1.heap) (hns : s1.heap.Ns mainGlobals mg) (hb : s1.heap.Ns builtinsNs mb) (hbb : ∀ x : Str, x ≠ "__name__" → mb x = bootBuiltins x) (hlim : s1.heap.NoLimit) (hg : s1.gens = #[])
    (ha : s1.heap.get? a = some { cls := .type "list", data := .seq vs.toArray }) (hi : IntsAre vs ns) (hl : ns.length ≤ sizeLine) (hr : Room k callerA)
    (F : ∀ base : Heap, K.In base → base.Ns mainGlobals mg → FnG P w K mg base k fa fd [x] sp) (hbind : ∀ (s : Shared) (u : Value), BindsTo s fd ⟨[u], []⟩ [(x, u)])
    (hsp : ∀ H : Hp, SqL K H a (ns.map V.int) → sp [.ref a] H (fun v _ => v = .bl true) fun _ _ _ => False) :
    codeAny (model P w) callerA (.call (.ref fa) ⟨[.ref a], []⟩) (fun r s' => r = .ok (.ret (.bool true)) ∧ OldK s1.heap s'.heap ∧ s'.os = s1.os ∧ AllBare s'.gens) s1 := by
  have rv := vals_ints hi
  have lenV := hi.length
  have core : ∀ H : Hp, Only H → SqL K H a (ns.map V.int) → HOk P w H s1.heap → (∀ b, H b ≠ none → b = a) → (H a ≠ none → K.lookup a = none) →
      codeAny (model P w) callerA (.call (.ref fa) ⟨[.ref a], []⟩) (fun r s' => r = .ok (.ret (.bool true)) ∧ OldK s1.heap s'.heap ∧ s'.os = s1.os ∧ AllBare s'.gens) s1 := by
    intro H hO hS hok hA hK
    have free : ∀ {b : Addr} {o : Obj} {es : Array DictEntry} {ep : Nat}, s1.heap.get? b = some o → o.data = .dict es ep → H b = none := by
      intro b o es ep e dt
      cases hb' : H b with
      | none => rfl
      | some u =>
        have eb : b = a := hA b (by rw [hb']; simp)
        subst eb
        rw [ha] at e
        cases e
        cases (show Data.seq vs.toArray _ = Data.dict es ep from dt)
    have nsK : ∀ {b : Addr} {m : Str → Option Value}, s1.heap.Ns b m → (hidT s1.heap H).Ns b m := by
      rintro b m ⟨o, es, ep, e, dt, r⟩
      exact ⟨o, es, ep, hidT_get e (free e dt), dt, r⟩
    have hKb : K.In (hidT s1.heap H) := by
      intro b o e
      refine hidT_get (KX b o e) ?_
      cases hb' : H b with
      | none => rfl
      | some u =>
        have eb : b = a := hA b (by rw [hb']; simp)
        subst eb
        rw [hK (by rw [hb']; simp)] at e
        cases e
    have hM : Mod K mg (hidT s1.heap H) := ⟨hKb, nsK hns, ⟨mb, nsK hb, hbb⟩, let ⟨mc, h1, h2⟩ := hlim; ⟨mc, nsK h1, h2⟩⟩
    have e0 : Env0 P w K mg (hidT s1.heap H) callerA [] s1 H :=
      ⟨rfl, hM, fun b o e => of_hidT e, Nat.le_of_eq (hidT_size _ _), trivial, fun b hb => absurd (show b ∈ ([] : List Addr) from hb) (by simp), hok, .of_eq hg⟩
    refine codeAny_mono ((F _ hKb (nsK hns)).run callerA [] s1 H ⟨[.ref a], []⟩ [.ref a] [.ref a] _ _ rfl hr e0 (hbind s1 (.ref a)) (.cons rfl .nil) (hsp H hS)) fun r s' h => ?_
    cases r with
    | error e => exact False.elim h
    | ok fl =>
      cases fl with
      | next => exact False.elim h
      | brk => exact False.elim h
      | cont => exact False.elim h
      | ret u =>
        obtain ⟨v, H', os, bare, un, hok', r', q⟩ := h
        cases (show v = .bl true from q)
        obtain rfl : u = Value.bool true := r'
        refine ⟨rfl, OldK.of_keep fun b o e => ?_, os, bare⟩
        cases hb' : H b with
        | none => exact un.keep b o e hb' (by intro z; exact absurd (show b ∈ ([] : List Addr) from z) (by simp)) (by simp)
        | some u =>
          rcases hO b with z | ⟨ob, xs, z⟩
          · rw [hb'] at z; cases z
          · obtain ⟨e1, _⟩ := hok b _ z
            obtain ⟨e2, _⟩ := hok' b _ (un.frzs b ob _ z)
            rw [e] at e1
            cases e1
            exact e2
  cases hk : K.lookup a with
  | some o =>
    have e := KX a o hk
    rw [ha] at e
    cases e
    exact core (fun _ => none) (fun _ => .inl rfl) (.inr ⟨_, vs.toArray, _, hk, rfl, rfl, rfl, by rw [List.size_toArray, lenV]; exact hl, by simpa using rv⟩) (fun b u z => by cases (show (none : Option HO) = some u from z)) (fun b z => absurd rfl z) fun z => absurd rfl z
  | none =>
    refine core (fun b => if b = a then some (.frz { cls := .type "list", data := .seq vs.toArray } (.lst (ns.map V.int))) else none) (fun b => ?_) (.inl (.inr ⟨{ cls := .type "list", data := .seq vs.toArray }, if_pos rfl⟩)) (fun b u z => ?_) (fun b z => ?_) fun _ => hk
    · by_cases eb : b = a
      · exact .inr ⟨_, _, if_pos eb⟩
      · exact .inl (if_neg eb)
    · by_cases eb : b = a
      · cases ((if_pos eb).symm.trans z)
        subst eb
        exact ⟨ha, by rw [List.length_map]; exact hl, vs, _, rv, ha⟩
      · cases ((if_neg eb).symm.trans z)
    · by_cases eb : b = a
      · exact eb
      · exact absurd (if_neg eb) z
theorem walkG {l : PySem.W.OpenLaw} {n k : Nat} {q : Program} {loose : List Str} {XP : (Str → Option Value) → Heap → Prop} {YP : World → Heap → Prop} {d : DefRec} {K : Params → PySem.W.Frag} {sp : World → Sp} {x : Str}
    (hn : l.most = some n) (hn2 : n ≤ sizeLine) (hdf : d.params.defaults = []) (hr : Room k callerA) (hY : ∀ (w : World) (h : Heap), YP w h → (K w.params).In h)
    (F : ∀ (w : World) (mg : Str → Option Value) (fa : Addr) (h : Heap), (K w.params).In h → h.Ns mainGlobals mg → mg d.name = some (.ref fa) →
      ∃ fd : FuncData, (∀ (s : Shared) (u : Value), BindsTo s fd ⟨[u], []⟩ [(x, u)]) ∧ ∀ base : Heap, (K w.params).In base → base.Ns mainGlobals mg → FnG l.prog w (K w.params) mg base k fa fd [x] (sp w))
    (hsp : ∀ (w : World) (H : Hp) (a : Addr) (ns : List Int), ns.length ≤ n → SqL (K w.params) H a (ns.map V.int) → sp w [.ref a] H (fun v _ => v = .bl true) fun _ _ _ => False) :
    PySem.W.WalkO q loose XP YP l.row.toRowW d [] (fun f vs => PySem.call f vs) := by
  refine Att.attach_call hn hdf fun w s0 s1 mg mb fa o pm cd doc a vs ns G Y ho hd hcd hmg hobj hints hlen hg => ?_
  have KX := hY w _ Y
  obtain ⟨fd, hb, hF⟩ := F w mg fa _ KX G.T.g hmg
  exact law_callG KX G.T.g G.T.b G.T.builtins G.T.nolimit hg hobj hints (Nat.le_trans hlen hn2) hr hF hb (fun H hS => hsp w H a ns hlen hS)
end My

set_option Elab.async false
set_option linter.all false
set_option maxRecDepth 100000
set_option maxHeartbeats 4000000
namespace My
open PySem L2
/-! ### things as trees -/
def base (H : Hp) (T : V → List PyData → Prop) (v : V) : PyData → Prop
  | .none => v = .non
  | .bool b => v = .bl b
  | .int i => v = .int i
  | .str x => v = .str x
  | .list _ => ∃ a xs, v = .ref a ∧ H a = some (.lst xs)
  | .dict _ => ∃ a, v = .ref a ∧ H a = some (.dK [])
  | .tuple ds => T v ds
/-- v is the tree d, tuples at most n within one another; of a list and a dict only that they are such -/
def Rep (H : Hp) : Nat → V → PyData → Prop
  | 0 => base H fun _ _ => False
  | n + 1 => base H fun v ds => ∃ a xs, v = .ref a ∧ H a = some (.tup xs) ∧ Paired (Rep H n) xs ds
theorem base_mono {H H' : Hp} {T T' : V → List PyData → Prop} {v : V} {d : PyData} (hl : ∀ a xs, H a = some (.lst xs) → H' a = some (.lst xs)) (hd : ∀ a, H a = some (.dK []) → H' a = some (.dK [])) (ht : ∀ ds, T v ds → T' v ds)
    (h : base H T v d) : base H' T' v d := by
  cases d with
  | none => exact h
  | bool b => exact h
  | int i => exact h
  | str x => exact h
  | list ds =>
    obtain ⟨a, xs, e, q⟩ := h
    exact ⟨a, xs, e, hl a xs q⟩
  | dict kvs =>
    obtain ⟨a, e, q⟩ := h
    exact ⟨a, e, hd a q⟩
  | tuple ds => exact ht ds h
theorem Rep.mono {H : Hp} : ∀ {n m : Nat} {v : V} {d : PyData}, n ≤ m → Rep H n v d → Rep H m v d
  | 0, 0, _, _, _, h => h
  | 0, m + 1, _, _, _, h => base_mono (fun _ _ q => q) (fun _ q => q) (fun _ z => z.elim) h
  | n + 1, 0, _, _, h, _ => absurd h (by omega)
  | n + 1, m + 1, v, d, hm, h => base_mono (fun _ _ q => q) (fun _ q => q) (fun ds ⟨a, xs, e, q, p⟩ => ⟨a, xs, e, q, Paired.mapP p fun _ _ z => Rep.mono (by omega) z⟩) h
/-- all but what stands at d is kept -/
def Kp (d : Addr) (H H' : Hp) : Prop := ∀ c o, H c = some o → c ≠ d → H' c = some o
theorem Kp.refl (d : Addr) (H : Hp) : Kp d H H := fun _ _ e _ => e
theorem Kp.trans {d : Addr} {H H1 H2 : Hp} (a : Kp d H H1) (b : Kp d H1 H2) : Kp d H H2 := fun c o e n => b c o (a c o e n) n
theorem Kp.of {d : Addr} {H H' : Hp} (s : Same H H') : Kp d H H' := fun c o e _ => s c o e
theorem Rep.keep {H H' : Hp} {d : Addr} {kvs : List (Key × V)} (hd : H d = some (.dK kvs)) (hne : kvs ≠ []) (k : Kp d H H') : ∀ {n : Nat} {v : V} {x : PyData}, Rep H n v x → Rep H' n v x := by
  have kl : ∀ a xs, H a = some (.lst xs) → H' a = some (.lst xs) := fun a xs e => k a _ e (ne_of e hd (by intro z; cases z))
  have kd : ∀ a, H a = some (.dK []) → H' a = some (.dK []) := fun a e => k a _ e (ne_of e hd (by intro z; exact hne (HO.dK.inj z).symm))
  intro n
  induction n with
  | zero =>
    intro v x h
    exact base_mono kl kd (fun _ z => z) h
  | succ n ih =>
    intro v x h
    exact base_mono kl kd (fun ds ⟨a, xs, e, q, p⟩ => ⟨a, xs, e, k a _ q (ne_of q hd (by intro z; cases z)), Paired.mapP p fun _ _ z => ih z⟩) h
theorem Rep.same {H H' : Hp} (s : Same H H') : ∀ {n : Nat} {v : V} {x : PyData}, Rep H n v x → Rep H' n v x := by
  intro n
  induction n with
  | zero =>
    intro v x h
    exact base_mono (fun _ _ e => s _ _ e) (fun _ e => s _ _ e) (fun _ z => z) h
  | succ n ih =>
    intro v x h
    exact base_mono (fun _ _ e => s _ _ e) (fun _ e => s _ _ e) (fun ds ⟨a, xs, e, q, p⟩ => ⟨a, xs, e, s _ _ q, Paired.mapP p fun _ _ z => ih z⟩) h
/-! ### sizes -/
mutual
def szD : PyData → Nat
  | .tuple ds => 1 + szL ds
  | .str x => 1 + x.length
  | .none => 1
  | .bool _ => 1
  | .int _ => 1
  | .list _ => 1
  | .dict _ => 1
def szL : List PyData → Nat
  | [] => 0
  | d :: ds => szD d + szL ds
end
theorem szD_pos (d : PyData) : 1 ≤ szD d := by
  cases d <;> simp [szD] <;> omega
theorem szL_app : ∀ (xs ys : List PyData), szL (xs ++ ys) = szL xs + szL ys
  | [], ys => by simp [szL]
  | x :: xs, ys => by
    rw [List.cons_append, szL, szL, szL_app xs ys]; omega
theorem szL_len : ∀ xs : List PyData, xs.length ≤ szL xs
  | [] => Nat.le_refl _
  | x :: xs => by
    have h1 := szL_len xs
    have h2 := szD_pos x
    rw [List.length_cons, szL]; omega
theorem szL_get : ∀ {xs : List PyData} {i : Nat} {d : PyData}, xs[i]? = some d → szD d ≤ szL xs
  | [], _, _, e => by simp at e
  | x :: xs, 0, d, e => by
    simp at e
    subst e
    rw [szL]; omega
  | x :: xs, i + 1, d, e => by
    have h := szL_get (xs := xs) (i := i) (d := d) (by simpa using e)
    rw [szL]; omega
theorem szL_td : ∀ (xs : List PyData) (i : Nat), szL (xs.take i) + szL (xs.drop i) = szL xs := fun xs i => by
  rw [← szL_app, List.take_append_drop]
theorem szL_rev : ∀ xs : List PyData, szL xs.reverse = szL xs
  | [] => rfl
  | x :: xs => by
    rw [List.reverse_cons, szL_app, szL_rev xs, szL, szL, szL]; omega
theorem szL_rep (d : PyData) : ∀ k : Nat, szL (List.replicate k d) = k * szD d
  | 0 => by simp [szL]
  | k + 1 => by
    rw [List.replicate_succ, szL, szL_rep d k, Nat.succ_mul]; omega
/-! ### words and worths, as both sides tell them -/
def letters : List Nat := (Str.ofString "abcdefghijklmnopqrstuvwxyz").cps.toList
def isWd (x : Str) : Bool := decide (1 ≤ x.length ∧ x.length ≤ 8) && x.cps.toList.all fun c => decide (c ∈ letters)
def leafW : PyData → Bool
  | .none => true
  | .int i => decide (-1000000000 ≤ i ∧ i ≤ 1000000000)
  | .str x => isWd x
  | _ => false
def isW : Nat → PyData → Bool
  | 0, .tuple _ => false
  | n + 1, .tuple ds => decide (ds.length ≤ 20) && ds.all (isW n)
  | _, d => leafW d
theorem isW_leaf {n : Nat} {d : PyData} (h : ∀ ds, d ≠ .tuple ds) : isW n d = leafW d := by
  cases n <;> cases d <;> first | rfl | exact absurd rfl (h _)
/-! ### texts -/
def leafT : PyData → Str
  | .none => "-"
  | .int i => toString i
  | .str x => x
  | _ => ""
def shW : Nat → PyData → Str
  | n + 1, .tuple ds => Txt.join " " ((("<" : Str) :: ds.map (shW n)) ++ [(">" : Str)])
  | _, d => leafT d
theorem shW_leaf {n : Nat} {d : PyData} (h : ∀ ds, d ≠ .tuple ds) : shW n d = leafT d := by
  cases n <;> cases d <;> first | rfl | exact absurd rfl (h _)
/-! ### two unlike worths have unlike texts -/
open TL in
theorem joinL_app (S : List Nat) : ∀ {ps qs : List (List Nat)}, ps ≠ [] → qs ≠ [] → joinL S (ps ++ qs) = joinL S ps ++ (S ++ joinL S qs)
  | [], _, h, _ => absurd rfl h
  | [p], [], _, h => absurd rfl h
  | [p], q :: r, _, _ => rfl
  | p :: p2 :: ps, qs, _, h => by
    show p ++ (S ++ joinL S ((p2 :: ps) ++ qs)) = (p ++ (S ++ joinL S (p2 :: ps))) ++ (S ++ joinL S qs)
    rw [joinL_app S (by simp) h]
    simp [List.append_assoc]
open TL in
theorem joinL_flat (S : List Nat) : ∀ {pss : List (List (List Nat))}, (∀ ps ∈ pss, ps ≠ []) → joinL S (pss.map (joinL S)) = joinL S pss.flatten
  | [], _ => rfl
  | [ps], _ => by simp [joinL]
  | ps :: qs :: r, h => by
    have h1 : ps ≠ [] := h ps (List.mem_cons_self ..)
    have h2 : qs ≠ [] := h qs (by simp)
    have h3 : (qs :: r).flatten ≠ [] := by
      rw [List.flatten_cons]
      intro z
      exact h2 (List.append_eq_nil_iff.mp z).1
    show joinL S ps ++ (S ++ joinL S ((qs :: r).map (joinL S))) = joinL S (ps :: qs :: r).flatten
    rw [joinL_flat S (fun z hz => h z (List.mem_cons_of_mem _ hz)), show (ps :: qs :: r).flatten = ps ++ (qs :: r).flatten from rfl, joinL_app S h1 h3]
def tkL : Nat → PyData → List (List Nat)
  | n + 1, .tuple ds => [60] :: ((ds.map (tkL n)).flatten ++ [[62]])
  | _, d => [TL.tl (leafT d)]
theorem tkL_leaf {n : Nat} {d : PyData} (h : ∀ ds, d ≠ .tuple ds) : tkL n d = [TL.tl (leafT d)] := by
  cases n <;> cases d <;> first | rfl | exact absurd rfl (h _)
theorem tkL_ne (n : Nat) (d : PyData) : tkL n d ≠ [] := by
  cases n <;> cases d <;> simp [tkL]
theorem tl_shW : ∀ (n : Nat) (d : PyData), TL.tl (shW n d) = TL.joinL [32] (tkL n d)
  | 0, d => by cases d <;> rfl
  | n + 1, .tuple ds => by
    show TL.tl (Txt.join " " ((("<" : Str) :: ds.map (shW n)) ++ [(">" : Str)])) = TL.joinL [32] ([60] :: ((ds.map (tkL n)).flatten ++ [[62]]))
    rw [TL.join_eq, TL.tl_join, show TL.tl " " = [32] by decide +kernel]
    have e1 : ((("<" : Str) :: ds.map (shW n)) ++ [(">" : Str)]).map TL.tl = ([[[60]]] ++ ds.map (tkL n) ++ [[[62]]]).map (TL.joinL [32]) := by
      rw [List.map_append, List.map_cons, List.map_map, List.map_append, List.map_append, List.map_map]
      have e2 : ds.map (TL.tl ∘ shW n) = ds.map (TL.joinL [32] ∘ tkL n) := List.map_congr_left fun d _ => tl_shW n d
      rw [e2, show TL.tl ("<" : Str) = [60] by decide +kernel, show [(">" : Str)].map TL.tl = [[62]] by decide +kernel]
      rfl
    rw [e1, joinL_flat [32] (fun ps hp => ?_)]
    · simp [List.flatten_append]
    · rcases List.mem_append.mp hp with hp | hp
      · rcases List.mem_append.mp hp with hp | hp
        · rw [List.mem_singleton.mp hp]; simp
        · obtain ⟨d, _, rfl⟩ := List.mem_map.mp hp
          exact tkL_ne n d
      · rw [List.mem_singleton.mp hp]; simp
  | n + 1, .none => rfl
  | n + 1, .bool _ => rfl
  | n + 1, .int _ => rfl
  | n + 1, .str _ => rfl
  | n + 1, .list _ => rfl
  | n + 1, .dict _ => rfl
theorem ofS_app (a b : String) : Str.ofString (a ++ b) = Str.ofString a ++ Str.ofString b := by
  apply TL.ext_tl
  rw [TL.tl_append]
  simp [TL.tl, Str.ofString_eq_toList]
theorem tl_int (i : Int) : TL.tl (leafT (.int i)) = if i < 0 then 45 :: TL.numL i.natAbs else TL.numL i.natAbs := by
  show TL.tl (Str.ofString (toString i)) = _
  cases i with
  | ofNat m =>
    rw [if_neg (by simp)]
    exact TL.tl_num m
  | negSucc m =>
    rw [if_pos (Int.negSucc_lt_zero m)]
    have h : toString (Int.negSucc m) = "-" ++ toString ((m + 1 : Nat) : Int) := rfl
    rw [h, ofS_app, TL.tl_append, TL.tl_num]
    rfl
theorem letters_lo : ∀ c ∈ letters, 97 ≤ c ∧ c ≤ 122 := by decide +kernel
theorem isWd_let {x : Str} (h : isWd x = true) : (∀ c ∈ TL.tl x, 97 ≤ c ∧ c ≤ 122) ∧ TL.tl x ≠ [] ∧ x.length ≤ 8 := by
  unfold isWd at h
  rw [Bool.and_eq_true, decide_eq_true_eq, List.all_eq_true] at h
  obtain ⟨⟨h1, h2⟩, h3⟩ := h
  refine ⟨fun c hc => letters_lo c (of_decide_eq_true (h3 c hc)), fun z => ?_, h2⟩
  rw [TL.len_tl, z] at h1
  exact absurd h1 (by decide)
/-- the sign of a leaf that is no tuple: its kind is seen at its first code -/
theorem leaf_inj {d e : PyData} (hd : leafW d = true) (he : leafW e = true) (h : TL.tl (leafT d) = TL.tl (leafT e)) : d = e := by
  have digs : ∀ (i : Int) (c : Nat), c ∈ TL.tl (leafT (.int i)) → c = 45 ∨ (48 ≤ c ∧ c ≤ 57) := by
    intro i c hc
    rw [tl_int] at hc
    have dg := TL.numL_digits i.natAbs
    split at hc
    · rcases List.mem_cons.mp hc with z | z
      · exact .inl z
      · exact .inr (dg c z)
    · exact .inr (dg c hc)
  have int_ne : ∀ i : Int, TL.tl (leafT (.int i)) ≠ [] ∧ TL.tl (leafT (.int i)) ≠ [45] := by
    intro i
    rw [tl_int]
    have n0 := TL.numL_ne i.natAbs
    split
    · refine ⟨by simp, fun z => n0 ?_⟩
      exact (List.cons.inj z).2
    · refine ⟨n0, fun z => ?_⟩
      have := TL.numL_digits i.natAbs 45 (by rw [z]; simp)
      omega
  have none_t : TL.tl (leafT .none) = [45] := by decide +kernel
  cases d with
  | none =>
    cases e with
    | none => rfl
    | int i => exact absurd (h.symm.trans none_t) (int_ne i).2
    | str x =>
      have hx := (isWd_let he).1
      have : (45 : Nat) ∈ TL.tl x := by
        rw [show TL.tl x = [45] from h.symm.trans none_t]; simp
      exact absurd (hx 45 this).1 (by decide)
    | bool b => exact absurd (show false = true from he) Bool.false_ne_true
    | list l => exact absurd (show false = true from he) Bool.false_ne_true
    | tuple l => exact absurd (show false = true from he) Bool.false_ne_true
    | dict l => exact absurd (show false = true from he) Bool.false_ne_true
  | int i =>
    cases e with
    | none => exact absurd (h.trans none_t) (int_ne i).2
    | int j =>
      rw [tl_int, tl_int] at h
      have ni := TL.numL_digits i.natAbs
      have nj := TL.numL_digits j.natAbs
      by_cases hi : i < 0 <;> by_cases hj : j < 0
      · rw [if_pos hi, if_pos hj] at h
        have := TL.numL_inj (List.cons.inj h).2
        have e : i = j := by omega
        rw [e]
      · rw [if_pos hi, if_neg hj] at h
        have := nj 45 (by rw [← h]; simp)
        omega
      · rw [if_neg hi, if_pos hj] at h
        have := ni 45 (by rw [h]; simp)
        omega
      · rw [if_neg hi, if_neg hj] at h
        have := TL.numL_inj h
        have e : i = j := by omega
        rw [e]
    | str x =>
      have hx := (isWd_let he).1
      have hn := (isWd_let he).2.1
      obtain ⟨c, r, hc⟩ := List.exists_cons_of_ne_nil hn
      have m1 : c ∈ TL.tl x := by rw [hc]; simp
      have m2 : c ∈ TL.tl (leafT (.int i)) := by
        rw [h]; exact m1
      have := hx c m1
      have := digs i c m2
      omega
    | bool b => exact absurd (show false = true from he) Bool.false_ne_true
    | list l => exact absurd (show false = true from he) Bool.false_ne_true
    | tuple l => exact absurd (show false = true from he) Bool.false_ne_true
    | dict l => exact absurd (show false = true from he) Bool.false_ne_true
  | str x =>
    have hx := (isWd_let hd).1
    have hn := (isWd_let hd).2.1
    obtain ⟨c, r, hc⟩ := List.exists_cons_of_ne_nil hn
    have m1 : c ∈ TL.tl x := by rw [hc]; simp
    cases e with
    | none =>
      have : (45 : Nat) ∈ TL.tl x := by
        rw [show TL.tl x = [45] from h.trans none_t]; simp
      exact absurd (hx 45 this).1 (by decide)
    | int j =>
      have m2 : c ∈ TL.tl (leafT (.int j)) := by
        rw [← h]; exact m1
      have := hx c m1
      have := digs j c m2
      omega
    | str y => rw [TL.ext_tl (show TL.tl x = TL.tl y from h)]
    | bool b => exact absurd (show false = true from he) Bool.false_ne_true
    | list l => exact absurd (show false = true from he) Bool.false_ne_true
    | tuple l => exact absurd (show false = true from he) Bool.false_ne_true
    | dict l => exact absurd (show false = true from he) Bool.false_ne_true
  | bool b => exact absurd (show false = true from hd) Bool.false_ne_true
  | list l => exact absurd (show false = true from hd) Bool.false_ne_true
  | tuple l => exact absurd (show false = true from hd) Bool.false_ne_true
  | dict l => exact absurd (show false = true from hd) Bool.false_ne_true
/-- no leaf's sign is a bracket, none has a blank -/
theorem leaf_no {d : PyData} (hd : leafW d = true) : TL.tl (leafT d) ≠ [60] ∧ TL.tl (leafT d) ≠ [62] ∧ (32 : Nat) ∉ TL.tl (leafT d) := by
  have key : ∀ c ∈ TL.tl (leafT d), c = 45 ∨ (48 ≤ c ∧ c ≤ 57) ∨ (97 ≤ c ∧ c ≤ 122) := by
    cases d with
    | none =>
      intro c hc
      have : TL.tl (leafT .none) = [45] := by decide +kernel
      rw [this] at hc
      exact .inl (List.mem_singleton.mp hc)
    | int i =>
      intro c hc
      rw [tl_int] at hc
      have dg := TL.numL_digits i.natAbs
      split at hc
      · rcases List.mem_cons.mp hc with z | z
        · exact .inl z
        · exact .inr (.inl (dg c z))
      · exact .inr (.inl (dg c hc))
    | str x =>
      intro c hc
      exact .inr (.inr ((isWd_let hd).1 c hc))
    | bool b => exact absurd (show false = true from hd) Bool.false_ne_true
    | list l => exact absurd (show false = true from hd) Bool.false_ne_true
    | tuple l => exact absurd (show false = true from hd) Bool.false_ne_true
    | dict l => exact absurd (show false = true from hd) Bool.false_ne_true
  refine ⟨fun z => ?_, fun z => ?_, fun z => ?_⟩
  · have := key 60 (by rw [z]; simp)
    omega
  · have := key 62 (by rw [z]; simp)
    omega
  · have := key 32 z
    omega
theorem isW_tup {n : Nat} {ds : List PyData} (h : isW n (.tuple ds) = true) : ∃ m, n = m + 1 ∧ ds.length ≤ 20 ∧ ∀ d ∈ ds, isW m d = true := by
  cases n with
  | zero => exact absurd h (by simp [isW])
  | succ m =>
    rw [isW, Bool.and_eq_true, decide_eq_true_eq, List.all_eq_true] at h
    exact ⟨m, rfl, h.1, h.2⟩
theorem notTup {d : PyData} : (∃ ds, d = .tuple ds) ∨ ∀ ds, d ≠ .tuple ds := by
  cases d with
  | tuple ds => exact .inl ⟨ds, rfl⟩
  | _ => exact .inr fun ds z => by cases z
theorem tk_pre : ∀ (n : Nat) {d e : PyData} {r r' : List (List Nat)}, isW n d = true → isW n e = true → tkL n d ++ r = tkL n e ++ r' → d = e ∧ r = r' := by
  intro n
  induction n with
  | zero =>
    intro d e r r' hd he h
    have nd : ∀ ds, d ≠ .tuple ds := fun ds z => by rw [z] at hd; exact absurd hd (by simp [isW])
    have ne : ∀ ds, e ≠ .tuple ds := fun ds z => by rw [z] at he; exact absurd he (by simp [isW])
    rw [isW_leaf nd] at hd
    rw [isW_leaf ne] at he
    rw [tkL_leaf nd, tkL_leaf ne] at h
    obtain ⟨h1, h2⟩ := List.cons.inj h
    exact ⟨leaf_inj hd he h1, h2⟩
  | succ n ih =>
    have lists : ∀ (ds es : List PyData) (r r' : List (List Nat)), (∀ d ∈ ds, isW n d = true) → (∀ e ∈ es, isW n e = true) → (ds.map (tkL n)).flatten ++ ([62] :: r) = (es.map (tkL n)).flatten ++ ([62] :: r') → ds = es ∧ r = r' := by
      have first : ∀ (d : PyData) (q : List (List Nat)) (t : List (List Nat)), isW n d = true → [62] :: t = tkL n d ++ q → False := by
        intro d q t hd h
        rcases @notTup d with ⟨ds, rfl⟩ | nd
        · obtain ⟨m, rfl, _, _⟩ := isW_tup hd
          rw [tkL] at h
          exact absurd (List.cons.inj h).1 (by decide)
        · rw [tkL_leaf nd] at h
          rw [isW_leaf nd] at hd
          exact (leaf_no hd).2.1 (List.cons.inj h).1.symm
      intro ds
      induction ds with
      | nil =>
        intro es r r' _ he h
        cases es with
        | nil => exact ⟨rfl, (List.cons.inj h).2⟩
        | cons e es =>
          rw [List.map_cons, List.flatten_cons, List.append_assoc] at h
          exact (first e _ _ (he e (List.mem_cons_self ..)) h).elim
      | cons d ds ihl =>
        intro es r r' hd he h
        cases es with
        | nil =>
          rw [List.map_cons, List.flatten_cons, List.append_assoc] at h
          exact (first d _ _ (hd d (List.mem_cons_self ..)) h.symm).elim
        | cons e es =>
          rw [List.map_cons, List.flatten_cons, List.append_assoc, List.map_cons, List.flatten_cons, List.append_assoc] at h
          obtain ⟨h1, h2⟩ := ih (hd d (List.mem_cons_self ..)) (he e (List.mem_cons_self ..)) h
          obtain ⟨h3, h4⟩ := ihl es r r' (fun z hz => hd z (List.mem_cons_of_mem _ hz)) (fun z hz => he z (List.mem_cons_of_mem _ hz)) h2
          exact ⟨by rw [h1, h3], h4⟩
    intro d e r r' hd he h
    rcases @notTup d with ⟨ds, rfl⟩ | nd
    · obtain ⟨m, em, _, kd⟩ := isW_tup hd
      cases em
      rcases @notTup e with ⟨es, rfl⟩ | ne
      · obtain ⟨m2, em2, _, ke⟩ := isW_tup he
        cases em2
        rw [tkL, tkL, List.cons_append, List.cons_append, List.append_assoc, List.append_assoc] at h
        obtain ⟨h1, h2⟩ := lists ds es r r' kd ke (List.cons.inj h).2
        exact ⟨by rw [h1], h2⟩
      · rw [tkL_leaf ne, tkL] at h
        rw [isW_leaf ne] at he
        exact ((leaf_no he).1 (List.cons.inj h).1.symm).elim
    · rcases @notTup e with ⟨es, rfl⟩ | ne
      · rw [tkL_leaf nd, tkL] at h
        rw [isW_leaf nd] at hd
        exact ((leaf_no hd).1 (List.cons.inj h).1).elim
      · rw [isW_leaf nd] at hd
        rw [isW_leaf ne] at he
        rw [tkL_leaf nd, tkL_leaf ne] at h
        obtain ⟨h1, h2⟩ := List.cons.inj h
        exact ⟨leaf_inj hd he h1, h2⟩
theorem tk_free : ∀ (n : Nat) {d : PyData}, isW n d = true → ∀ t ∈ tkL n d, (32 : Nat) ∉ t := by
  intro n
  induction n with
  | zero =>
    intro d hd t ht
    have nd : ∀ ds, d ≠ .tuple ds := fun ds z => by rw [z] at hd; exact absurd hd (by simp [isW])
    rw [isW_leaf nd] at hd
    rw [tkL_leaf nd] at ht
    rw [List.mem_singleton.mp ht]
    exact (leaf_no hd).2.2
  | succ n ih =>
    intro d hd t ht
    rcases @notTup d with ⟨ds, rfl⟩ | nd
    · obtain ⟨m, em, _, kd⟩ := isW_tup hd
      cases em
      rw [tkL] at ht
      rcases List.mem_cons.mp ht with z | z
      · rw [z]; decide
      · rcases List.mem_append.mp z with z | z
        · obtain ⟨l, hl, htl⟩ := List.mem_flatten.mp z
          obtain ⟨e, hee, rfl⟩ := List.mem_map.mp hl
          exact ih (kd e hee) t htl
        · rw [List.mem_singleton.mp z]; decide
    · rw [isW_leaf nd] at hd
      rw [tkL_leaf nd] at ht
      rw [List.mem_singleton.mp ht]
      exact (leaf_no hd).2.2
theorem shW_inj {n : Nat} {d e : PyData} (hd : isW n d = true) (he : isW n e = true) (h : shW n d = shW n e) : d = e := by
  have h1 : TL.joinL [32] (tkL n d) = TL.joinL [32] (tkL n e) := by
    rw [← tl_shW, ← tl_shW, h]
  have h2 := congrArg (TL.spl [32] 0 []) h1
  rw [TL.spl_join (tkL_ne n d) (tk_free n hd), TL.spl_join (tkL_ne n e) (tk_free n he)] at h2
  exact (tk_pre n (r := []) (r' := []) hd he (by rw [h2])).1
end My

set_option Elab.async false
set_option linter.all false
set_option maxRecDepth 100000
set_option maxHeartbeats 4000000
namespace My
open PySem L2
/-! ### how long a worth's text is, and its signs -/
def sumL : List (List Nat) → Nat
  | [] => 0
  | p :: ps => (p.length + 1) + sumL ps
theorem sumL_app : ∀ ps qs : List (List Nat), sumL (ps ++ qs) = sumL ps + sumL qs
  | [], qs => by simp [sumL]
  | p :: ps, qs => by
    rw [List.cons_append, sumL, sumL, sumL_app ps qs]; omega
theorem joinL_len : ∀ {ps : List (List Nat)}, ps ≠ [] → (TL.joinL [32] ps).length + 1 = sumL ps
  | [], h => absurd rfl h
  | [p], _ => by simp [TL.joinL, sumL]
  | p :: q :: r, _ => by
    have h := joinL_len (ps := q :: r) (by simp)
    show (p ++ ([32] ++ TL.joinL [32] (q :: r))).length + 1 = (p.length + 1) + sumL (q :: r)
    rw [List.length_append, List.length_append, ← h]
    simp only [List.length_cons, List.length_nil]
    omega
theorem joinL_mem {c : Nat} : ∀ {ps : List (List Nat)}, c ∈ TL.joinL [32] ps → c = 32 ∨ ∃ t ∈ ps, c ∈ t
  | [], h => by simp [TL.joinL] at h
  | [p], h => .inr ⟨p, by simp, h⟩
  | p :: q :: r, h => by
    rcases List.mem_append.mp (show c ∈ p ++ ([32] ++ TL.joinL [32] (q :: r)) from h) with z | z
    · exact .inr ⟨p, by simp, z⟩
    · rcases List.mem_append.mp z with z | z
      · exact .inl (List.mem_singleton.mp z)
      · rcases joinL_mem z with z | ⟨t, ht, hc⟩
        · exact .inl z
        · exact .inr ⟨t, List.mem_cons_of_mem _ ht, hc⟩
theorem leaf_len {d : PyData} (hd : leafW d = true) : (TL.tl (leafT d)).length + 1 ≤ 12 * szD d := by
  cases d with
  | none => decide +kernel
  | int i =>
    have h : -1000000000 ≤ i ∧ i ≤ 1000000000 := of_decide_eq_true hd
    rw [tl_int]
    have hn : (TL.numL i.natAbs).length ≤ 10 := TL.numL_len (by decide) (show i.natAbs < 10 ^ 10 by omega)
    split
    · rw [List.length_cons, szD]; omega
    · rw [szD]; omega
  | str x =>
    show (TL.tl x).length + 1 ≤ 12 * szD (.str x)
    rw [szD, TL.len_tl]; omega
  | bool b => exact absurd (show false = true from hd) Bool.false_ne_true
  | list l => exact absurd (show false = true from hd) Bool.false_ne_true
  | tuple l => exact absurd (show false = true from hd) Bool.false_ne_true
  | dict l => exact absurd (show false = true from hd) Bool.false_ne_true
theorem leaf_sign {d : PyData} (hd : leafW d = true) : ∀ c ∈ TL.tl (leafT d), c ≤ 122 := by
  cases d with
  | none =>
    intro c hc
    rw [show TL.tl (leafT .none) = [45] by decide +kernel] at hc
    rw [List.mem_singleton.mp hc]; decide
  | int i =>
    intro c hc
    rw [tl_int] at hc
    have dg := TL.numL_digits i.natAbs
    split at hc
    · rcases List.mem_cons.mp hc with z | z
      · omega
      · have := dg c z; omega
    · have := dg c hc; omega
  | str x => exact fun c hc => ((isWd_let hd).1 c hc).2
  | bool b => exact absurd (show false = true from hd) Bool.false_ne_true
  | list l => exact absurd (show false = true from hd) Bool.false_ne_true
  | tuple l => exact absurd (show false = true from hd) Bool.false_ne_true
  | dict l => exact absurd (show false = true from hd) Bool.false_ne_true
theorem tk_sum : ∀ (n : Nat) {d : PyData}, isW n d = true → sumL (tkL n d) ≤ 12 * szD d ∧ ∀ t ∈ tkL n d, ∀ c ∈ t, c ≤ 122 := by
  intro n
  induction n with
  | zero =>
    intro d hd
    have nd : ∀ ds, d ≠ .tuple ds := fun ds z => by rw [z] at hd; exact absurd hd (by simp [isW])
    rw [isW_leaf nd] at hd
    rw [tkL_leaf nd]
    refine ⟨by simp only [sumL]; have := leaf_len hd; omega, fun t ht => ?_⟩
    rw [List.mem_singleton.mp ht]
    exact leaf_sign hd
  | succ n ih =>
    intro d hd
    rcases @notTup d with ⟨ds, rfl⟩ | nd
    · obtain ⟨m, em, _, kd⟩ := isW_tup hd
      cases em
      have key : ∀ ds : List PyData, (∀ d ∈ ds, isW n d = true) → sumL (ds.map (tkL n)).flatten ≤ 12 * szL ds ∧ ∀ t ∈ (ds.map (tkL n)).flatten, ∀ c ∈ t, c ≤ 122 := by
        intro ds
        induction ds with
        | nil => exact fun _ => ⟨by simp [sumL], fun t ht => by simp at ht⟩
        | cons e es ihl =>
          intro h
          obtain ⟨h1, h2⟩ := ih (h e (List.mem_cons_self ..))
          obtain ⟨h3, h4⟩ := ihl fun z hz => h z (List.mem_cons_of_mem _ hz)
          rw [List.map_cons, List.flatten_cons]
          refine ⟨?_, fun t ht => ?_⟩
          · rw [sumL_app, szL]; omega
          · rcases List.mem_append.mp ht with z | z
            · exact h2 t z
            · exact h4 t z
      obtain ⟨h1, h2⟩ := key ds kd
      rw [tkL]
      refine ⟨?_, fun t ht => ?_⟩
      · rw [sumL, sumL_app, szD]
        simp only [sumL, List.length_cons, List.length_nil]
        omega
      · rcases List.mem_cons.mp ht with z | z
        · rw [z]; intro c hc; rw [List.mem_singleton.mp hc]; decide
        · rcases List.mem_append.mp z with z | z
          · exact h2 t z
          · rw [List.mem_singleton.mp z]; intro c hc; rw [List.mem_singleton.mp hc]; decide
    · rw [isW_leaf nd] at hd
      rw [tkL_leaf nd]
      refine ⟨by simp only [sumL]; have := leaf_len hd; omega, fun t ht => ?_⟩
      rw [List.mem_singleton.mp ht]
      exact leaf_sign hd
theorem shW_len {n : Nat} {d : PyData} (hd : isW n d = true) : (shW n d).length + 1 ≤ 12 * szD d := by
  rw [TL.len_tl, tl_shW, joinL_len (tkL_ne n d)]
  exact (tk_sum n hd).1
theorem shW_sign {n : Nat} {d : PyData} (hd : isW n d = true) : ∀ c ∈ TL.tl (shW n d), c ≤ 122 := by
  intro c hc
  rw [tl_shW] at hc
  rcases joinL_mem hc with z | ⟨t, ht, h⟩
  · omega
  · exact (tk_sum n hd).2 t ht c h
theorem shW_repr {n : Nat} {d : PyData} (hd : isW n d = true) (hs : szD d ≤ 40000) : (reprText (shW n d)).length ≤ sizeLine := by
  have h1 := StrLaws.reprText_len (shW n d) fun c hc => Nat.lt_of_le_of_lt (shW_sign hd c hc) (by decide)
  have h2 := shW_len hd
  rw [sizeLine_eq]
  omega
/-! ### worths that are alike -/
theorem eqv_w : ∀ (n : Nat) {d e : PyData}, isW n d = true → isW n e = true → (PyData.eqv d e = true ↔ d = e) := by
  have leaf : ∀ {d e : PyData}, leafW d = true → leafW e = true → (PyData.eqv d e = true ↔ d = e) := by
    intro d e hd he
    cases d <;> cases e <;> first | exact absurd (show false = true from hd) Bool.false_ne_true | exact absurd (show false = true from he) Bool.false_ne_true | simp [PyData.eqv]
  have mixed : ∀ {d : PyData} {ds : List PyData}, leafW d = true → ¬ (PyData.eqv d (.tuple ds) = true) ∧ ¬ (PyData.eqv (.tuple ds) d = true) := by
    intro d ds hd
    cases d <;> first | exact absurd (show false = true from hd) Bool.false_ne_true | simp [PyData.eqv]
  intro n
  induction n with
  | zero =>
    intro d e hd he
    have nd : ∀ ds, d ≠ .tuple ds := fun ds z => by rw [z] at hd; exact absurd hd (by simp [isW])
    have ne : ∀ ds, e ≠ .tuple ds := fun ds z => by rw [z] at he; exact absurd he (by simp [isW])
    rw [isW_leaf nd] at hd
    rw [isW_leaf ne] at he
    exact leaf hd he
  | succ n ih =>
    have lists : ∀ ds es : List PyData, (∀ d ∈ ds, isW n d = true) → (∀ e ∈ es, isW n e = true) → (PyData.eqvAll ds es = true ↔ ds = es) := by
      intro ds
      induction ds with
      | nil => intro es _ _; cases es <;> simp [PyData.eqvAll]
      | cons d ds ihl =>
        intro es hd he
        cases es with
        | nil => simp [PyData.eqvAll]
        | cons e es =>
          rw [PyData.eqvAll, Bool.and_eq_true, ih (hd d (List.mem_cons_self ..)) (he e (List.mem_cons_self ..)), ihl es (fun z hz => hd z (List.mem_cons_of_mem _ hz)) (fun z hz => he z (List.mem_cons_of_mem _ hz))]
          constructor
          · rintro ⟨rfl, rfl⟩; rfl
          · intro h; exact ⟨(List.cons.inj h).1, (List.cons.inj h).2⟩
    intro d e hd he
    rcases @notTup d with ⟨ds, rfl⟩ | nd
    · obtain ⟨m, em, _, kd⟩ := isW_tup hd
      cases em
      rcases @notTup e with ⟨es, rfl⟩ | ne
      · obtain ⟨m2, em2, _, ke⟩ := isW_tup he
        cases em2
        rw [PyData.eqv, lists ds es kd ke]
        constructor
        · rintro rfl; rfl
        · intro h; exact PyData.tuple.inj h
      · rw [isW_leaf ne] at he
        exact ⟨fun z => ((mixed he).2 z).elim, fun z => (ne ds z.symm).elim⟩
    · rcases @notTup e with ⟨es, rfl⟩ | ne
      · rw [isW_leaf nd] at hd
        exact ⟨fun z => ((mixed hd).1 z).elim, fun z => (nd es z).elim⟩
      · rw [isW_leaf nd] at hd
        rw [isW_leaf ne] at he
        exact leaf hd he
theorem lay_w : ∀ (n : Nat) {d : PyData}, isW n d = true → d.canLay0 = true ∧ d.depth ≤ n := by
  have leaf : ∀ {d : PyData}, leafW d = true → d.canLay0 = true ∧ d.depth = 0 := by
    intro d hd
    cases d with
    | none => exact ⟨rfl, by simp [PyData.depth]⟩
    | int i => exact ⟨rfl, by simp [PyData.depth]⟩
    | str x =>
      refine ⟨?_, by simp [PyData.depth]⟩
      show PyData.strOk x = true
      unfold PyData.strOk
      rw [Array.all_eq_true']
      intro c hc
      have := (isWd_let hd).1 c (Array.mem_toList_iff.mpr hc)
      exact decide_eq_true (by omega)
    | bool b => exact absurd (show false = true from hd) Bool.false_ne_true
    | list l => exact absurd (show false = true from hd) Bool.false_ne_true
    | tuple l => exact absurd (show false = true from hd) Bool.false_ne_true
    | dict l => exact absurd (show false = true from hd) Bool.false_ne_true
  intro n
  induction n with
  | zero =>
    intro d hd
    have nd : ∀ ds, d ≠ .tuple ds := fun ds z => by rw [z] at hd; exact absurd hd (by simp [isW])
    rw [isW_leaf nd] at hd
    exact ⟨(leaf hd).1, Nat.le_of_eq (leaf hd).2⟩
  | succ n ih =>
    intro d hd
    rcases @notTup d with ⟨ds, rfl⟩ | nd
    · obtain ⟨m, em, _, kd⟩ := isW_tup hd
      cases em
      have key : ∀ ds : List PyData, (∀ d ∈ ds, isW n d = true) → PyData.canLayAll0 ds = true ∧ PyData.depthAll ds ≤ n := by
        intro ds
        induction ds with
        | nil => exact fun _ => ⟨rfl, by simp [PyData.depthAll]⟩
        | cons e es ihl =>
          intro h
          obtain ⟨h1, h2⟩ := ih (h e (List.mem_cons_self ..))
          obtain ⟨h3, h4⟩ := ihl fun z hz => h z (List.mem_cons_of_mem _ hz)
          refine ⟨by rw [PyData.canLayAll0, h1, h3]; rfl, ?_⟩
          rw [PyData.depthAll]; omega
      obtain ⟨h1, h2⟩ := key ds kd
      exact ⟨by rw [PyData.canLay0]; exact h1, by rw [PyData.depth]; omega⟩
    · rw [isW_leaf nd] at hd
      exact ⟨(leaf hd).1, by rw [(leaf hd).2]; omega⟩
theorem shaped_w {n : Nat} {d : PyData} (h : isW n d = true) (hn : n ≤ 60) : SeqAt.shaped d = true := by
  unfold SeqAt.shaped
  rw [(lay_w n h).1, Bool.true_and]
  exact decide_eq_true (by have := (lay_w n h).2; omega)
theorem dp_w {K : PySem.W.Frag} {H : Hp} : ∀ (n : Nat) {m : Nat} {v : V} {d : PyData}, isW n d = true → Rep H m v d → Dp K H v d := by
  have leaf : ∀ {T : V → List PyData → Prop} {v : V} {d : PyData}, leafW d = true → base H T v d → Dp K H v d := by
    intro T v d hd h
    cases d with
    | none => rw [show v = .non from h]; exact .non
    | int i => rw [show v = .int i from h]; exact .int i
    | str x => rw [show v = .str x from h]; exact .str x
    | bool b => exact absurd (show false = true from hd) Bool.false_ne_true
    | list l => exact absurd (show false = true from hd) Bool.false_ne_true
    | tuple l => exact absurd (show false = true from hd) Bool.false_ne_true
    | dict l => exact absurd (show false = true from hd) Bool.false_ne_true
  have leafR : ∀ {m : Nat} {v : V} {d : PyData}, leafW d = true → Rep H m v d → Dp K H v d := by
    intro m v d hd h
    cases m with
    | zero => exact leaf hd h
    | succ m => exact leaf hd h
  intro n
  induction n with
  | zero =>
    intro m v d hd h
    have nd : ∀ ds, d ≠ .tuple ds := fun ds z => by rw [z] at hd; exact absurd hd (by simp [isW])
    rw [isW_leaf nd] at hd
    exact leafR hd h
  | succ n ih =>
    intro m v d hd h
    rcases @notTup d with ⟨ds, rfl⟩ | nd
    · obtain ⟨k, ek, h20, kd⟩ := isW_tup hd
      cases ek
      cases m with
      | zero => exact (show False from h).elim
      | succ m =>
        obtain ⟨a, xs, rfl, ha, hp⟩ := (show ∃ a xs, v = .ref a ∧ H a = some (.tup xs) ∧ Paired (Rep H m) xs ds from h)
        refine .tup (SqT.of ha) ?_
        clear ha h hd h20
        induction hp with
        | nil => exact .nil
        | cons h1 h2 ihp => exact .cons (ih (kd _ (List.mem_cons_self ..)) h1) (ihp fun z hz => kd z (List.mem_cons_of_mem _ hz))
    · rw [isW_leaf nd] at hd
      exact leafR hd h
end My

set_option Elab.async false
set_option linter.all false
set_option maxRecDepth 100000
set_option maxHeartbeats 4000000
namespace My
open PySem L2
def top (i : Nat) : Stmt := PySem.Challenge.pw_rankloop_k61_words_and_worths.main.body.getD i (.Pass ⟨0, 0, 0, 0⟩)
/-! ### the pen: what a law draws from -/
abbrev kC : Key := Sum.inr "cells"
abbrev kA : Key := Sum.inr "at"
abbrev kL : Key := Sum.inr "left"
def pen (l : Addr) (n L : Int) : List (Key × V) := [(kC, .ref l), (kA, .int n), (kL, .int L)]
theorem sCA : ¬ Str.ofString "cells" = Str.ofString "at" := by decide +kernel
theorem sCL : ¬ Str.ofString "cells" = Str.ofString "left" := by decide +kernel
theorem sAL : ¬ Str.ofString "at" = Str.ofString "left" := by decide +kernel
theorem sLA : ¬ Str.ofString "left" = Str.ofString "at" := by decide +kernel
theorem nCA : ¬ kC = kA := fun h => absurd (Sum.inr.inj h) (by decide +kernel)
theorem nCL : ¬ kC = kL := fun h => absurd (Sum.inr.inj h) (by decide +kernel)
theorem nAL : ¬ kA = kL := fun h => absurd (Sum.inr.inj h) (by decide +kernel)
theorem pen_c (l : Addr) (n L : Int) : valV (pen l n L) kC = some (.ref l) := valV_pos rfl
theorem pen_a (l : Addr) (n L : Int) : valV (pen l n L) kA = some (.int n) := (valV_neg nCA).trans (valV_pos rfl)
theorem pen_l (l : Addr) (n L : Int) : valV (pen l n L) kL = some (.int L) := (valV_neg nCL).trans ((valV_neg nAL).trans (valV_pos rfl))
theorem pen_putA (l : Addr) (n L m : Int) : putK (pen l n L) kA (.int m) = pen l m L := by
  simp [putK, pen, sCA, sLA]
theorem pen_putL (l : Addr) (n L m : Int) : putK (pen l n L) kL (.int m) = pen l n m := by
  simp [putK, pen, sCL, sAL]
theorem pen_len (l : Addr) (n L : Int) : (pen l n L).length < sizeLine := by
  show 3 < sizeLine
  decide
theorem pen_new (l : Addr) (n L : Int) : mergeK [] (pen l n L) = pen l n L := by
  have h1 : putK [] kC (.ref l) = [(kC, V.ref l)] := rfl
  have h2 : putK [(kC, V.ref l)] kA (.int n) = [(kC, V.ref l), (kA, V.int n)] := by simp [putK, sCA]
  have h3 : putK [(kC, V.ref l), (kA, V.int n)] kL (.int L) = pen l n L := by simp [putK, pen, sCL, sAL]
  show putK (putK (putK [] kC (.ref l)) kA (.int n)) kL (.int L) = _
  rw [h1, h2, h3]
/-- a pen stands at d, its cells at l -/
structure Pen (H : Hp) (d l : Addr) (ms : List Int) (n L : Int) : Prop where
  dc : H d = some (.dK (pen l n L))
  ls : H l = some (.lst (ms.map V.int))
  n0 : 0 ≤ n
  l0 : 0 ≤ L
theorem Pen.ne {H : Hp} {d l : Addr} {ms : List Int} {n L : Int} (p : Pen H d l ms n L) : l ≠ d := ne_of p.ls p.dc (by intro z; cases z)
theorem Pen.gC {H : Hp} {d l : Addr} {ms : List Int} {n L : Int} (p : Pen H d l ms n L) : DGet H d (.str "cells") (some (.ref l)) := by
  have h := DGet.k (k := kC) p.dc
  rw [pen_c] at h
  exact h
theorem Pen.gA {H : Hp} {d l : Addr} {ms : List Int} {n L : Int} (p : Pen H d l ms n L) : DGet H d (.str "at") (some (.int n)) := by
  have h := DGet.k (k := kA) p.dc
  rw [pen_a] at h
  exact h
theorem Pen.gL {H : Hp} {d l : Addr} {ms : List Int} {n L : Int} (p : Pen H d l ms n L) : DGet H d (.str "left") (some (.int L)) := by
  have h := DGet.k (k := kL) p.dc
  rw [pen_l] at h
  exact h
theorem Pen.pA {H : Hp} {d l : Addr} {ms : List Int} {n L : Int} (p : Pen H d l ms n L) (y : Int) : DPut H d (.str "at") (.int y) (L2.upd H d (.dK (pen l y L))) := by
  have h := DPut.k (k := kA) (v := .int y) p.dc (pen_len l n L)
  rw [pen_putA] at h
  exact h
theorem Pen.pL {H : Hp} {d l : Addr} {ms : List Int} {n L : Int} (p : Pen H d l ms n L) (y : Int) : DPut H d (.str "left") (.int y) (L2.upd H d (.dK (pen l n y))) := by
  have h := DPut.k (k := kL) (v := .int y) p.dc (pen_len l n L)
  rw [pen_putL] at h
  exact h
def spPen (K : PySem.W.Frag) : Sp := fun vs H Q _ => ∃ (a : Addr) (ns : List Int), vs = [.ref a] ∧ SqL K H a (ns.map V.int) ∧
  ∀ (d l : Addr) (ms : List Int) (H' : Hp), H d = none → H l = none → Same H H' → Pen H' d l ms 0 0 → Q (.ref d) H'
def spDraw : Sp := fun vs H Q _ => ∃ (d l : Addr) (ms : List Int) (n L m : Int), vs = [.ref d, .int m] ∧ Pen H d l ms n L ∧ n < 2 ^ 40 ∧ 0 < m ∧ m < 1073741824 ∧
  ∀ (r n' L' : Int) (H' : Hp), 0 ≤ r → r < m → n ≤ n' → n' ≤ n + 1 → Pen H' d l ms n' L' → (∀ c o, H c = some o → c ≠ d → H' c = some o) → Q (.int r) H'
theorem Pen.upd' {H : Hp} {d l : Addr} {ms : List Int} {n L n' L' : Int} (p : Pen H d l ms n L) (h1 : 0 ≤ n') (h2 : 0 ≤ L') : Pen (L2.upd H d (.dK (pen l n' L'))) d l ms n' L' :=
  ⟨upd_same, by rw [upd_ne p.ne]; exact p.ls, h1, h2⟩
theorem cut_ints (ns : List Int) (lo hi : Option Int) : ∃ ms : List Int, cutV (ns.map V.int) lo hi = ms.map V.int := by
  unfold cutV
  refine ⟨(ns.drop (HT.sIx (ns.map V.int).length 0 lo)).take (HT.sIx (ns.map V.int).length (ns.map V.int).length hi - HT.sIx (ns.map V.int).length 0 lo), ?_⟩
  rw [List.map_take, List.map_drop]
section
variable {P : Program} {w : World} {K : PySem.W.Frag} {mg : Str → Option Value} {base : Heap}
abbrev sPen : Stmt := top 13
abbrev sDraw : Stmt := top 14
theorem scPen : FnScope ["_law_script"] ["_law_script"] (defScope sPen) := ⟨rfl, rfl, rfl, by decide +kernel, rfl, by decide +kernel, by decide +kernel⟩
theorem ok_pen {f : Addr} {fd : FuncData} (F : Fun K "_law_pen" "_law_pen" sPen f fd) (mList : mg "list" = none) : FnOk P w K mg base CX0 1 f fd ["_law_script"] (spPen K) := by
  refine F.ok scPen (fun vs H Q E h => ?_) (fun cdv A outer s H vs Q E hr h => ?_)
  · obtain ⟨a, ns, rfl, _⟩ := h
    rfl
  · obtain ⟨a, ns, rfl, hS, k⟩ := h
    refine ⟨_, pss_one (ps_ret (pe_disp (pps_cons pe_str (pe_callTy call_list_of (by rfl) mList (by decide +kernel) (pa_cons (pe_slice sl_list (pv 0) po_none (po_some pe_int)) pa_nil))
      (pps_cons pe_str pe_int (pps_cons pe_str pe_int pps_nil))) (by rfl) (by rfl) (fun z => by cases z) (by decide))), ?_⟩
    intro d hd
    have s1 : Same H (upd H d (.dK [])) := fun b o e => by
      rw [upd_ne (ne_of_none e hd)]; exact e
    obtain ⟨ms, em⟩ := cut_ints ns none (some 63)
    refine ⟨_, rfl, 63, rfl, a, _, rfl, s1.seq hS, fun p hp => ⟨p, _, rfl, .inl (SqL.of upd_same), fun l hl => ?_⟩⟩
    have nlp : l ≠ p := fun z => by
      rw [z, upd_same] at hl
      cases hl
    have hl1 : upd H d (.dK []) l = none := by
      rw [upd_ne nlp] at hl; exact hl
    have nld : l ≠ d := fun z => by
      rw [z, upd_same] at hl1
      cases hl1
    have npd : p ≠ d := fun z => by
      rw [z, upd_same] at hp
      cases hp
    have hl0 : H l = none := by
      rw [upd_ne nld] at hl1; exact hl1
    have hp0 : H p = none := by
      rw [upd_ne npd] at hp; exact hp
    refine ⟨by rw [upd_ne (Ne.symm nld), upd_ne (Ne.symm npd), upd_same], pen l 0 0, rfl, by show 3 ≤ 15; decide, ?_⟩
    rw [pen_new]
    refine k d l ms _ hd hl0 (fun b o e => ?_) ⟨upd_same, ?_, Int.le_refl _, Int.le_refl _⟩
    · rw [upd_ne (ne_of_none e hd), upd_ne (ne_of_none e hl0), upd_ne (ne_of_none e hp0), upd_ne (ne_of_none e hd)]
      exact e
    · rw [upd_ne nld, upd_same]
      exact congrArg (fun z => some (HO.lst z)) em
theorem scDraw : FnScope ["_law_held", "_law_many", "_law_found", "_law_at", "_law_cell", "_law_number"] ["_law_held", "_law_many"] (defScope sDraw) := ⟨rfl, rfl, rfl, by decide +kernel, rfl, by decide +kernel, by decide +kernel⟩
theorem eq_nil (ms : List Int) : (!PyData.eqv (.list (ms.map PyData.int)) (.list [])) = !ms.isEmpty := by
  cases ms <;> simp [PyData.eqv, PyData.eqvAll]
theorem dp_ints {H : Hp} : ∀ ms : List Int, DpAll K H (ms.map V.int) (ms.map PyData.int)
  | [] => .nil
  | i :: r => .cons (.int i) (dp_ints r)
theorem shaped_ints (ms : List Int) : SeqAt.shaped (.list (ms.map PyData.int)) = true := by
  have h1 : ∀ ms : List Int, PyData.canLayAll0 (ms.map PyData.int) = true := by
    intro ms
    induction ms with
    | nil => rfl
    | cons a r ih => simp [PyData.canLayAll0, PyData.canLay0, ih]
  have h2 : ∀ ms : List Int, PyData.depthAll (ms.map PyData.int) ≤ 1 := by
    intro ms
    induction ms with
    | nil => simp [PyData.depthAll]
    | cons a r ih => simp [PyData.depthAll, PyData.depth]; omega
  unfold SeqAt.shaped
  have h3 := h2 ms
  simp [PyData.canLay0, PyData.depth, h1]
  omega
theorem ok_draw {f : Addr} {fd : FuncData} (F : Fun K "_law_draw" "_law_draw" sDraw f fd) (mLen : mg "len" = none) : FnOk P w K mg base CX0 1 f fd ["_law_held", "_law_many"] spDraw := by
  refine F.ok scDraw (fun vs H Q E h => ?_) (fun cdv A outer s H vs Q E hr h => ?_)
  · obtain ⟨d, l, ms, n, L, m, rfl, _⟩ := h
    rfl
  · obtain ⟨d, l, ms, n, L, m, rfl, p, hn, hm0, hm1, k⟩ := h
    have hu := hu_of hr
    have nd := scDraw.nd
    refine ⟨_, pss_cons (ps_if (pt_cmpR op_gt (pe_dget hu (pv 0) pe_str (fun _ _ => rfl)) pe_int (nomark _))
        (pss_cons (ps_set (i := 2) nd rfl (Or.inl rfl) (pe_op op_mod (pe_dget hu (pv 0) pe_str (fun _ _ => rfl)) (pv 1)))
        (pss_cons (ps_dput hu (pv 0) pe_str (pe_op op_fdiv (pe_dget hu (pv 0) pe_str (fun _ _ => rfl)) (pv 1)) rfl)
        (pss_one (ps_ret (pv 2))))) pss_nil)
      (pss_cons (ps_set (i := 3) nd rfl (Or.inl rfl) (pe_dget hu (pv 0) pe_str (fun _ _ => rfl)))
      (pss_cons (ps_dput hu (pv 0) pe_str (pe_op op_add (pv 3) pe_int) rfl)
      (pss_cons (ps_set (i := 4) nd rfl (Or.inl rfl) pe_int)
      (pss_cons (ps_if (pt_cmpR (op_neD hr.units) (pe_dget hu (pv 0) pe_str (fun _ _ => rfl)) (pe_lst pa_nil) (nomark _))
        (pss_one (ps_set (i := 4) nd rfl (Or.inl rfl) (pe_ix ix_list (pe_dget hu (pv 0) pe_str (fun _ _ => rfl)) (pe_op op_mod (pv 3) (pe_callB call_len_seq (by rfl) mLen PySem.boot_len (pa_cons (pe_dget hu (pv 0) pe_str (fun _ _ => rfl)) pa_nil))) (fun _ _ => rfl)))) pss_nil)
      (pss_cons (ps_if (PW.pt (pw_and (pt_cmpR op_lt (pv 3) (pe_callB call_len_seq (by rfl) mLen PySem.boot_len (pa_cons (pe_dget hu (pv 0) pe_str (fun _ _ => rfl)) pa_nil)) (nomark _))
          (pw_and1 (pt_cmpR op_ge (pv 4) (pe_op op_pow pe_int pe_int) (nomark _)))))
        (pss_cons (ps_dput hu (pv 0) pe_str (pe_op op_fdiv (pe_op op_sub (pv 4) (pe_op op_pow pe_int pe_int)) (pv 1)) rfl)
        (pss_one (ps_ret (pe_op op_mod (pe_op op_sub (pv 4) (pe_op op_pow pe_int pe_int)) (pv 1))))) pss_nil)
      (pss_cons (ps_set (i := 5) nd rfl (Or.inl rfl) (pe_op op_mod (pe_op op_add (pe_op op_add (pe_op op_add (pe_op op_mul (pe_op op_mod (pv 4) pe_int) pe_int) (pe_op op_mul (pe_op op_mul pe_int (pv 3)) (pv 3))) (pe_op op_mul pe_int (pv 3))) pe_int) pe_int))
      (pss_cons (ps_set (i := 5) nd rfl (Or.inl rfl) (pe_op op_mod (pe_op op_add (pe_op op_add (pe_op op_mul (pv 5) (pv 5)) (pe_op op_mul pe_int (pv 5))) pe_int) pe_int))
      (pss_one (ps_ret (pe_op op_mod (pe_op op_fdiv (pv 5) pe_int) (pv 1))))))))))), ?_⟩
    refine ⟨_, rfl, d, _, rfl, p.gL, _, _, rfl, rfl, _, rfl, ite2 (fun c => ?_) (fun c => ?_)⟩
    · refine ⟨_, rfl, d, _, rfl, p.gL, _, rfl, _, _, rfl, rfl, hm0, ?_⟩
      refine ⟨_, rfl, d, _, rfl, p.gL, _, rfl, _, _, rfl, rfl, ⟨hm0, hm1⟩, _, rfl, d, _, rfl, p.pL _, ?_⟩
      refine ⟨_, rfl, ?_⟩
      exact k _ n _ _ (Int.emod_nonneg _ (by omega)) (Int.emod_lt_of_pos _ hm0) (Int.le_refl _) (by omega) (p.upd' p.n0 (Int.ediv_nonneg p.l0 (by omega))) fun c o e nc => by
        rw [upd_ne nc]; exact e
    · refine ⟨_, rfl, d, _, rfl, p.gA, ?_⟩
      refine ⟨_, rfl, _, _, rfl, rfl, _, rfl, d, _, rfl, p.pA _, ?_⟩
      have p1 : Pen (upd H d (.dK (pen l (n + 1) L))) d l ms (n + 1) L := p.upd' (by have := p.n0; omega) p.l0
      have pw : ((10 : Int).natAbs < 2 ^ 64) := by decide
      refine ⟨_, rfl, d, _, rfl, p1.gC, Nat.zero_le _, fun q hq => ?_⟩
      have p2 : Pen (upd (upd H d (.dK (pen l (n + 1) L))) q (.lst [])) d l ms (n + 1) L :=
        ⟨by rw [upd_ne (ne_of_none p1.dc hq)]; exact p1.dc, by rw [upd_ne (ne_of_none p1.ls hq)]; exact p1.ls, p1.n0, p1.l0⟩
      have keep : ∀ c o, H c = some o → c ≠ d → (upd (upd H d (.dK (pen l (n + 1) L))) q (.lst [])) c = some o := fun c o e nc => by
        have e1 : (upd H d (.dK (pen l (n + 1) L))) c = some o := by rw [upd_ne nc]; exact e
        rw [upd_ne (ne_of_none e1 hq)]
        exact e1
      refine ⟨.list (ms.map PyData.int), .list [], .lst (SqL.of p2.ls) (dp_ints ms), .lst (SqL.of upd_same) .nil, shaped_ints ms, by decide, _, rfl, ite2 (fun c1 => ?_) (fun c1 => ?_)⟩
      · rw [eq_nil] at c1
        have hne : ms ≠ [] := fun z => by
          rw [z] at c1; cases c1
        have hlen : 0 < ms.length := List.length_pos_iff.mpr hne
        have hlen' : (0 : Int) < ((ms.map V.int).length : Int) := by rw [List.length_map]; omega
        have hlt : (n % ((ms.map V.int).length : Int)).toNat < ms.length := by
          have h1 := Int.emod_nonneg n (b := ((ms.map V.int).length : Int)) (by omega)
          have h2 := Int.emod_lt_of_pos n hlen'
          rw [List.length_map] at h1 h2 ⊢
          omega
        have hat : atI (ms.map V.int) (n % ((ms.map V.int).length : Int)) = some (V.int (ms[(n % ((ms.map V.int).length : Int)).toNat]'hlt)) := by
          have h1 := Int.emod_nonneg n (b := ((ms.map V.int).length : Int)) (by omega)
          have h2 : (ms.map V.int)[(n % ((ms.map V.int).length : Int)).toNat]? = some (V.int (ms[(n % ((ms.map V.int).length : Int)).toNat]'hlt)) := by
            rw [List.getElem?_map, List.getElem?_eq_getElem hlt]; rfl
          have h3 := atI_nat h2
          rw [Int.toNat_of_nonneg h1] at h3
          exact h3
        refine ⟨_, rfl, d, _, rfl, p2.gC, _, rfl, _, rfl, d, _, rfl, p2.gC, l, _, rfl, .inl (SqL.of p2.ls), _, _, rfl, rfl, hlen', l, _, _, _, rfl, rfl, SqL.of p2.ls, hat, ?_⟩
        refine ⟨_, rfl, _, rfl, d, _, rfl, p2.gC, l, _, rfl, .inl (SqL.of p2.ls), _, _, rfl, rfl, _, rfl, ite2 (fun c2 => ?_) (fun c2 => ?_)⟩
        · refine ⟨_, rfl, _, _, rfl, rfl, ⟨by decide, by decide, pw⟩, _, _, rfl, rfl, _, rfl, ite2 (fun c3 => ?_) (fun c3 => ?_)⟩
          · have hz := of_decide_eq_true c3
            refine ⟨_, rfl, _, _, rfl, rfl, ⟨by decide, by decide, pw⟩, _, _, rfl, rfl, _, rfl, _, _, rfl, rfl, ⟨hm0, hm1⟩, _, rfl, d, _, rfl, p2.pL _, ?_⟩
            refine ⟨_, rfl, _, _, rfl, rfl, ⟨by decide, by decide, pw⟩, _, _, rfl, rfl, _, rfl, _, _, rfl, rfl, hm0, ?_⟩
            exact k _ (n + 1) _ _ (Int.emod_nonneg _ (by omega)) (Int.emod_lt_of_pos _ hm0) (by omega) (Int.le_refl _) (p2.upd' p2.n0 (Int.ediv_nonneg (by omega) (by omega))) fun c o e nc => by
              rw [upd_ne nc]; exact keep c o e nc
          · skip
            refine ⟨_, rfl, _, _, rfl, rfl, (by show (0 : Int) < 2147483549; decide), _, _, rfl, rfl, .inr ⟨by decide, by decide⟩, _, rfl, _, _, rfl, rfl, .inl ⟨by decide, by decide⟩, _, rfl, _, _, rfl, rfl, .inr ⟨by have := p.n0; omega, by omega⟩, _, _, rfl, rfl, _, rfl, _, _, rfl, rfl, .inl ⟨by decide, by decide⟩, _, _, rfl, rfl, _, _, rfl, rfl, _, _, rfl, rfl, (by show (0 : Int) < 2147483647; decide), ?_⟩
            refine ⟨_, rfl, _, rfl, _, _, rfl, rfl, .inl ⟨Int.lt_of_lt_of_le (by decide) (Int.emod_nonneg _ (by decide)), Int.lt_trans (Int.emod_lt_of_pos _ (by decide)) (by decide)⟩, _, rfl, _, _, rfl, rfl, .inl ⟨by decide, by decide⟩, _, _, rfl, rfl, _, _, rfl, rfl, _, _, rfl, rfl, (by show (0 : Int) < 2147483629; decide), ?_⟩
            refine ⟨_, rfl, _, _, rfl, rfl, ⟨by decide, by decide⟩, _, rfl, _, _, rfl, rfl, hm0, ?_⟩
            exact k _ (n + 1) L _ (Int.emod_nonneg _ (by omega)) (Int.emod_lt_of_pos _ hm0) (by omega) (Int.le_refl _) p2 keep
        · skip
          refine ⟨_, rfl, _, _, rfl, rfl, (by show (0 : Int) < 2147483549; decide), _, _, rfl, rfl, .inr ⟨by decide, by decide⟩, _, rfl, _, _, rfl, rfl, .inl ⟨by decide, by decide⟩, _, rfl, _, _, rfl, rfl, .inr ⟨by have := p.n0; omega, by omega⟩, _, _, rfl, rfl, _, rfl, _, _, rfl, rfl, .inl ⟨by decide, by decide⟩, _, _, rfl, rfl, _, _, rfl, rfl, _, _, rfl, rfl, (by show (0 : Int) < 2147483647; decide), ?_⟩
          refine ⟨_, rfl, _, rfl, _, _, rfl, rfl, .inl ⟨Int.lt_of_lt_of_le (by decide) (Int.emod_nonneg _ (by decide)), Int.lt_trans (Int.emod_lt_of_pos _ (by decide)) (by decide)⟩, _, rfl, _, _, rfl, rfl, .inl ⟨by decide, by decide⟩, _, _, rfl, rfl, _, _, rfl, rfl, _, _, rfl, rfl, (by show (0 : Int) < 2147483629; decide), ?_⟩
          refine ⟨_, rfl, _, _, rfl, rfl, ⟨by decide, by decide⟩, _, rfl, _, _, rfl, rfl, hm0, ?_⟩
          exact k _ (n + 1) L _ (Int.emod_nonneg _ (by omega)) (Int.emod_lt_of_pos _ hm0) (by omega) (Int.le_refl _) p2 keep
      · skip
        refine ⟨_, rfl, _, rfl, d, _, rfl, p2.gC, l, _, rfl, .inl (SqL.of p2.ls), _, _, rfl, rfl, _, rfl, ite2 (fun c2 => ?_) (fun c2 => ?_)⟩
        · refine ⟨_, rfl, _, _, rfl, rfl, ⟨by decide, by decide, pw⟩, _, _, rfl, rfl, _, rfl, ite2 (fun c3 => ?_) (fun c3 => ?_)⟩
          · have hz := of_decide_eq_true c3
            refine ⟨_, rfl, _, _, rfl, rfl, ⟨by decide, by decide, pw⟩, _, _, rfl, rfl, _, rfl, _, _, rfl, rfl, ⟨hm0, hm1⟩, _, rfl, d, _, rfl, p2.pL _, ?_⟩
            refine ⟨_, rfl, _, _, rfl, rfl, ⟨by decide, by decide, pw⟩, _, _, rfl, rfl, _, rfl, _, _, rfl, rfl, hm0, ?_⟩
            exact k _ (n + 1) _ _ (Int.emod_nonneg _ (by omega)) (Int.emod_lt_of_pos _ hm0) (by omega) (Int.le_refl _) (p2.upd' p2.n0 (Int.ediv_nonneg (by omega) (by omega))) fun c o e nc => by
              rw [upd_ne nc]; exact keep c o e nc
          · skip
            refine ⟨_, rfl, _, _, rfl, rfl, (by show (0 : Int) < 2147483549; decide), _, _, rfl, rfl, .inr ⟨by decide, by decide⟩, _, rfl, _, _, rfl, rfl, .inl ⟨by decide, by decide⟩, _, rfl, _, _, rfl, rfl, .inr ⟨by have := p.n0; omega, by omega⟩, _, _, rfl, rfl, _, rfl, _, _, rfl, rfl, .inl ⟨by decide, by decide⟩, _, _, rfl, rfl, _, _, rfl, rfl, _, _, rfl, rfl, (by show (0 : Int) < 2147483647; decide), ?_⟩
            refine ⟨_, rfl, _, rfl, _, _, rfl, rfl, .inl ⟨Int.lt_of_lt_of_le (by decide) (Int.emod_nonneg _ (by decide)), Int.lt_trans (Int.emod_lt_of_pos _ (by decide)) (by decide)⟩, _, rfl, _, _, rfl, rfl, .inl ⟨by decide, by decide⟩, _, _, rfl, rfl, _, _, rfl, rfl, _, _, rfl, rfl, (by show (0 : Int) < 2147483629; decide), ?_⟩
            refine ⟨_, rfl, _, _, rfl, rfl, ⟨by decide, by decide⟩, _, rfl, _, _, rfl, rfl, hm0, ?_⟩
            exact k _ (n + 1) L _ (Int.emod_nonneg _ (by omega)) (Int.emod_lt_of_pos _ hm0) (by omega) (Int.le_refl _) p2 keep
        · skip
          refine ⟨_, rfl, _, _, rfl, rfl, (by show (0 : Int) < 2147483549; decide), _, _, rfl, rfl, .inr ⟨by decide, by decide⟩, _, rfl, _, _, rfl, rfl, .inl ⟨by decide, by decide⟩, _, rfl, _, _, rfl, rfl, .inr ⟨by have := p.n0; omega, by omega⟩, _, _, rfl, rfl, _, rfl, _, _, rfl, rfl, .inl ⟨by decide, by decide⟩, _, _, rfl, rfl, _, _, rfl, rfl, _, _, rfl, rfl, (by show (0 : Int) < 2147483647; decide), ?_⟩
          refine ⟨_, rfl, _, rfl, _, _, rfl, rfl, .inl ⟨Int.lt_of_lt_of_le (by decide) (Int.emod_nonneg _ (by decide)), Int.lt_trans (Int.emod_lt_of_pos _ (by decide)) (by decide)⟩, _, rfl, _, _, rfl, rfl, .inl ⟨by decide, by decide⟩, _, _, rfl, rfl, _, _, rfl, rfl, _, _, rfl, rfl, (by show (0 : Int) < 2147483629; decide), ?_⟩
          refine ⟨_, rfl, _, _, rfl, rfl, ⟨by decide, by decide⟩, _, rfl, _, _, rfl, rfl, hm0, ?_⟩
          exact k _ (n + 1) L _ (Int.emod_nonneg _ (by omega)) (Int.emod_lt_of_pos _ hm0) (by omega) (Int.le_refl _) p2 keep
end
end My

set_option Elab.async false
set_option linter.all false
set_option maxRecDepth 100000
set_option maxHeartbeats 4000000
namespace My
open PySem L2
/-! ### isinstance of a tree -/
def tyN : PyData → String
  | .none => "NoneType" | .bool _ => "bool" | .int _ => "int" | .str _ => "str" | .list _ => "list" | .tuple _ => "tuple" | .dict _ => "dict"
def isStr : PyData → Bool
  | .str _ => true | _ => false
def isInt : PyData → Bool
  | .int _ => true | .bool _ => true | _ => false
def isBool : PyData → Bool
  | .bool _ => true | _ => false
def isTup : PyData → Bool
  | .tuple _ => true | _ => false
def isNon : PyData → Bool
  | .none => true | _ => false
def isTy (T : String) (d : PyData) : Bool := if T = "str" then isStr d else if T = "int" then isInt d else if T = "bool" then isBool d else isTup d
section
variable {P : Program} {w : World} {K : PySem.W.Frag} {mg : Str → Option Value} {pB : Heap}
theorem base_ty {H : Hp} {T : V → List PyData → Prop} {v : V} {d : PyData} (ht : ∀ ds, T v ds → ∃ a xs, v = .ref a ∧ H a = some (.tup xs)) (h : base H T v d) : TyX K H v (.type (tyN d)) := by
  cases d with
  | none => rw [show v = .non from h]; exact .base .non
  | bool b => rw [show v = .bl b from h]; exact .base (.bl b)
  | int i => rw [show v = .int i from h]; exact .base (.int i)
  | str x => rw [show v = .str x from h]; exact .base (.str x)
  | list l =>
    obtain ⟨a, xs, rfl, e⟩ := h
    exact .base (.lst e)
  | dict l =>
    obtain ⟨a, rfl, e⟩ := h
    exact .base (.dK e)
  | tuple ds =>
    obtain ⟨a, xs, rfl, e⟩ := ht ds h
    exact .base (.tup e)
theorem Rep.ty {H : Hp} {m : Nat} {v : V} {d : PyData} (h : Rep H m v d) : TyX K H v (.type (tyN d)) := by
  cases m with
  | zero => exact base_ty (fun _ z => z.elim) h
  | succ m => exact base_ty (fun ds ⟨a, xs, e, q, _⟩ => ⟨a, xs, e, q⟩) h
theorem kit_T {T : String} (hT : T = "str" ∨ T = "int" ∨ T = "bool" ∨ T = "tuple") (d : PyData) : kitB (tyN d) T = some (isTy T d) := by
  rcases hT with rfl | rfl | rfl | rfl <;> cases d <;> kernel_rfl
theorem rd_isi {σ : L2.St} {H : Hp} {Q : VK} {i m : Nat} {T : String} {v : V} {d : PyData} (hT : T = "str" ∨ T = "int" ∨ T = "bool" ∨ T = "tuple") (hσ : σ[i]? = some (some v)) (r : Rep H m v d) (h : Q (.bl (isTy T d)) H) :
    tCB (rIsi K) (tCons (tVar i) (tCons (tC (.ty T)) tNil)) σ H Q :=
  ⟨_, hσ, v, .ty T, .type (tyN d), .type T, _, rfl, .ty T, r.ty, kit_ty (kit_T hT d), h⟩
theorem rep_str {H : Hp} {m : Nat} {v : V} {x : Str} (h : Rep H m v (.str x)) : v = .str x := by
  cases m <;> exact h
theorem rep_int {H : Hp} {m : Nat} {v : V} {i : Int} (h : Rep H m v (.int i)) : v = .int i := by
  cases m <;> exact h
theorem rep_none {H : Hp} {m : Nat} {v : V} (h : Rep H m v .none) : v = .non := by
  cases m <;> exact h
theorem rep_tup {H : Hp} {m : Nat} {v : V} {ds : List PyData} (h : Rep H m v (.tuple ds)) : ∃ k a xs, m = k + 1 ∧ v = .ref a ∧ H a = some (.tup xs) ∧ Paired (Rep H k) xs ds := by
  cases m with
  | zero => exact (show False from h).elim
  | succ k =>
    obtain ⟨a, xs, e, q, p⟩ := (show ∃ a xs, v = .ref a ∧ H a = some (.tup xs) ∧ Paired (Rep H k) xs ds from h)
    exact ⟨k, a, xs, rfl, e, q, p⟩
theorem rep_nonn {H : Hp} {m : Nat} {v : V} {d : PyData} (h : Rep H m v d) : decide (v = .non) = isNon d := by
  have key : ∀ T : V → List PyData → Prop, (∀ ds, T v ds → v ≠ .non) → base H T v d → decide (v = .non) = isNon d := by
    intro T ht hb
    cases d with
    | none => rw [show v = .non from hb]; rfl
    | bool b => rw [show v = .bl b from hb]; rfl
    | int i => rw [show v = .int i from hb]; rfl
    | str x => rw [show v = .str x from hb]; rfl
    | list l =>
      obtain ⟨a, xs, rfl, e⟩ := hb
      rfl
    | dict l =>
      obtain ⟨a, rfl, e⟩ := hb
      rfl
    | tuple ds =>
      have := ht ds hb
      rw [decide_eq_false this]; rfl
  cases m with
  | zero => exact key _ (fun _ z => z.elim) h
  | succ m => exact key _ (fun ds ⟨a, xs, e, _⟩ => by rw [e]; intro z; cases z) h
theorem yes_of {σ : L2.St} {H : Hp} {Q : Bool → Hp → Prop} (h : Q true H) : tYes σ H Q := h
/-! ### is_word -/
def wdD : PyData → Bool
  | .str x => isWd x
  | _ => false
def spIsWord : Sp := fun vs H Q _ => ∃ (m : Nat) (v : V) (d : PyData), vs = [v] ∧ Rep H m v d ∧ szD d ≤ 1000000 ∧ ∀ H', Same H H' → Q (.bl (wdD d)) H'
abbrev sIsWord : Stmt := top 5
theorem scIsWord : FnScope ["thing"] ["thing"] (defScope sIsWord) := ⟨rfl, rfl, rfl, by decide +kernel, rfl, by decide +kernel, by decide +kernel⟩
theorem take_snoc {α : Type} {l : List α} {i : Nat} {a : α} (h : l[i]? = some a) : l.take (i + 1) = l.take i ++ [a] := by
  rw [List.take_succ, h]; rfl
theorem sign_let : ∀ c, c < 128 → (Unicode.isAlpha c && !(Unicode.isUpper c || Unicode.isTitle c)) = decide (c ∈ letters) := by decide +kernel
theorem let_sign : ∀ c ∈ letters, c < 128 ∧ Unicode.isAlpha c = true ∧ Unicode.isLower c = true ∧ (Unicode.isUpper c || Unicode.isTitle c) = false := by decide +kernel
/-- letters, small, of the first 128 signs: a word's signs -/
theorem wd_of (x : Str) (h8 : x.length ≤ 8) : (Txt.isalpha x && (Txt.islower x && Txt.isascii x)) = isWd x := by
  have e0 : x.length = x.cps.toList.length := rfl
  unfold Txt.isalpha Txt.islower Txt.isascii isWd
  rw [← Array.all_toList, ← Array.all_toList, ← Array.any_toList, ← Array.any_toList, e0]
  rw [e0] at h8
  generalize x.cps.toList = l at h8
  rw [Bool.eq_iff_iff]
  simp only [Bool.and_eq_true, decide_eq_true_eq, List.all_eq_true, List.any_eq_true, Bool.not_eq_true', List.any_eq_false, Bool.or_eq_true]
  constructor
  · rintro ⟨⟨h0, ha⟩, ⟨_, hu⟩, hs⟩
    refine ⟨⟨h0, h8⟩, fun c hc => ?_⟩
    have h1 := sign_let c (hs c hc)
    have h2 : (Unicode.isUpper c || Unicode.isTitle c) = false := by
      have := hu c hc
      cases h : (Unicode.isUpper c || Unicode.isTitle c)
      · rfl
      · exact absurd ((Bool.or_eq_true _ _).mp h) this
    rw [ha c hc, h2] at h1
    exact of_decide_eq_true h1.symm
  · rintro ⟨⟨h0, _⟩, hl⟩
    have q := fun c hc => let_sign c (hl c hc)
    refine ⟨⟨h0, fun c hc => (q c hc).2.1⟩, ⟨?_, fun c hc z => ?_⟩, fun c hc => (q c hc).1⟩
    · match l, h0, q with
      | c :: r, _, q => exact ⟨c, List.mem_cons_self .., (q c (List.mem_cons_self ..)).2.2.1⟩
    · have := (q c hc).2.2.2
      rw [(Bool.or_eq_true _ _).mpr z] at this
      cases this
theorem ok_isword {f : Addr} {fd : FuncData} {tk : Tok} (F : Fun K "is_word" "is_word" sIsWord f fd) (mI : mg "isinstance" = none) (mS : mg "str" = none) (mLen : mg "len" = none)
    (mM : mg "MOST_LETTERS" = some (.int 8 tk)) : FnOk P w K mg pB CX0 1 f fd ["thing"] spIsWord := by
  refine F.ok scIsWord (fun vs H Q E h => ?_) (fun cdv A outer s H vs Q E hr h => ?_)
  · obtain ⟨m, v, d, rfl, _⟩ := h
    rfl
  · obtain ⟨m, v, d, rfl, hR, hz, k⟩ := h
    have nd := scIsWord.nd
    refine ⟨_, pss_cons (ps_if (PW.pt (pw_or (pt_not (pt_val (pe_callB call_isi (by rfl) mI (by decide +kernel) (pa_cons (pv 0) (pa_cons (pe_bltn (by rfl) mS (by decide +kernel) (show RelV (.ty "str") (.type "str") from rfl)) pa_nil)))))
        (pw_or1 (pt_cmpR op_gt (pe_callB call_len_str (by rfl) mLen PySem.boot_len (pa_cons (pv 0) pa_nil)) (pe_glob (by rfl) mM (show RelV (.int 8) _ from ⟨_, rfl⟩)) (nomark _))))) (pss_one (ps_ret pe_bl)) pss_nil)
      (pss_one (ps_ret (pe_and (pe_bm0 PySem.F.plainAttrs_str PySem.F.slot_str_isalpha PySem.F.type_str_isalpha mt_isalpha (pv 0))
        (pe_and (pe_bm0 PySem.F.plainAttrs_str PySem.F.slot_str_islower PySem.F.type_str_islower mt_islower (pv 0))
          (pe_one (pe_bm0 PySem.F.plainAttrs_str PySem.F.slot_str_isascii PySem.F.type_str_isascii mt_isascii (pv 0))))))), ?_⟩
    refine rd_isi (.inl rfl) rfl hR ⟨_, rfl, ?_⟩
    cases hd : isStr d with
    | false =>
      refine iteB1 (by rw [show isTy "str" d = isStr d from rfl, hd]; rfl) (iteT ?_)
      have e : wdD d = false := by cases d <;> first | rfl | exact absurd hd (by simp [isStr])
      have := k H (Same.refl _)
      rw [e] at this
      exact this
    | true =>
      obtain ⟨x, rfl⟩ : ∃ x, d = .str x := by
        cases d <;> first | exact ⟨_, rfl⟩ | exact absurd hd (by simp [isStr])
      cases rep_str hR
      have hx : x.length ≤ sizeLine := by
        rw [sizeLine_eq]
        rw [szD] at hz
        omega
      refine iteB0 rfl ?_
      refine ⟨_, rfl, x, rfl, hx, _, _, rfl, rfl, _, rfl, ?_⟩
      have kk := k H (Same.refl _)
      by_cases h8 : x.length ≤ 8
      · refine iteN (by show ¬ ((8 : Int) < (x.length : Int)); omega) ?_
        have e : wdD (.str x) = (Txt.isalpha x && (Txt.islower x && Txt.isascii x)) := (wd_of x h8).symm
        rw [e] at kk
        refine ⟨_, rfl, rfl, x, rfl, rfl, trivial, _, rfl, ?_⟩
        cases h1 : Txt.isalpha x with
        | false => rw [h1] at kk; exact iteF kk
        | true =>
          rw [h1] at kk
          refine iteT ⟨_, rfl, rfl, x, rfl, rfl, trivial, _, rfl, ?_⟩
          cases h2 : Txt.islower x with
          | false => rw [h2] at kk; exact iteF kk
          | true =>
            rw [h2] at kk
            exact iteT ⟨_, rfl, rfl, x, rfl, rfl, trivial, kk⟩
      · refine iteY (by show (8 : Int) < (x.length : Int); omega) ?_
        have e : wdD (.str x) = false := by
          show isWd x = false
          unfold isWd
          rw [decide_eq_false (by omega)]; rfl
        rw [e] at kk
        exact kk
end
end My

set_option Elab.async false
set_option linter.all false
set_option maxRecDepth 100000
set_option maxHeartbeats 4000000
namespace My
open PySem L2
section
variable {P : Program} {w : World} {K : PySem.W.Frag} {mg : Str → Option Value} {pB : Heap}
/-! ### the law's own is_word -/
abbrev sLWord : Stmt := top 19
theorem scLWord : FnScope ["_law_it", "_law_sign"] ["_law_it"] (defScope sLWord) := ⟨rfl, rfl, rfl, by decide +kernel, rfl, by decide +kernel, by decide +kernel⟩
theorem none_out (l : List Nat) : ((l.filter fun c => !decide (c ∈ letters)).map fun c => V.str ⟨#[c]⟩).isEmpty = l.all fun c => decide (c ∈ letters) := by
  induction l with
  | nil => rfl
  | cons c l ih =>
    by_cases h : c ∈ letters
    · rw [List.filter_cons_of_neg (by simp [h]), List.all_cons, ih]; simp [h]
    · rw [List.filter_cons_of_pos (by simp [h])]; simp [h]
theorem ok_lword {f : Addr} {fd : FuncData} (F : Fun K "_law_is_word" "_law_is_word" sLWord f fd) (mI : mg "isinstance" = none) (mS : mg "str" = none) (mLen : mg "len" = none) : FnOk P w K mg pB CX0 1 f fd ["_law_it"] spIsWord := by
  refine F.ok scLWord (fun vs H Q E h => ?_) (fun cdv A outer s H vs Q E hr h => ?_)
  · obtain ⟨m, v, d, rfl, _⟩ := h
    rfl
  · obtain ⟨m, v, d, rfl, hR, hz, k⟩ := h
    have nd := scLWord.nd
    refine ⟨_, pss_cons (ps_if (PW.pt (pw_or (pt_not (pt_val (pe_callB call_isi (by rfl) mI (by decide +kernel) (pa_cons (pv 0) (pa_cons (pe_bltn (by rfl) mS (by decide +kernel) (show RelV (.ty "str") (.type "str") from rfl)) pa_nil)))))
        (pw_or1 (pt_not (pt_chain op_le op_le pe_int (pe_callB call_len_str (by rfl) mLen PySem.boot_len (pa_cons (pv 0) pa_nil)) pe_int))))) (pss_one (ps_ret pe_bl)) pss_nil)
      (pss_one (ps_ret (pe_cmpR (op_eqL0 hr.units)
        (pe_lc (own := [("_law_sign", 1)]) (g := gName 1) (tt := tTest (tOp (fun x y H Q => ∃ (c : Nat) (z : Str), x = .str ⟨#[c]⟩ ∧ y = .str z ∧ Q (.bl (!decide (c ∈ z.cps.toList))) H) (tVar 1) (tC (.str "abcdefghijklmnopqrstuvwxyz")))) (te := tVar 1) rfl nd (pi_str (pv 0))
          (blkOk_by (N := ["_law_it", "_law_sign"]) (sc := defScope sLWord) (by decide +kernel)) (fun _ _ _ _ _ => pg_name (i := 1) nd rfl (Or.inl rfl) (Or.inr rfl)) (fun _ _ _ _ _ => pts_one (pt_cmpR op_notIn_sign (pv 1) pe_str rfl))
          (fun _ _ _ _ _ => pv 1)) (pe_lst pa_nil) (nomark _)))), ?_⟩
    refine rd_isi (.inl rfl) rfl hR ⟨_, rfl, ?_⟩
    cases hd : isStr d with
    | false =>
      refine iteB1 (by rw [show isTy "str" d = isStr d from rfl, hd]; rfl) (iteT ?_)
      have e : wdD d = false := by cases d <;> first | rfl | exact absurd hd (by simp [isStr])
      have := k H (Same.refl _)
      rw [e] at this
      exact this
    | true =>
      obtain ⟨x, rfl⟩ : ∃ x, d = .str x := by
        cases d <;> first | exact ⟨_, rfl⟩ | exact absurd hd (by simp [isStr])
      cases rep_str hR
      have hx : x.length ≤ sizeLine := by
        rw [sizeLine_eq]
        rw [szD] at hz
        omega
      refine iteB0 rfl ?_
      refine ⟨_, rfl, x, rfl, hx, _, _, rfl, rfl, _, rfl, ite2 (fun c1 => ?_) (fun c1 => ?_)⟩
      · refine ⟨_, _, rfl, rfl, _, rfl, ?_⟩
        by_cases h8 : (x.length : Int) ≤ 8
        · refine iteB0 (by rw [decide_eq_true h8]; rfl) ?_
          refine ⟨_, rfl, x, rfl, fun D hD => ?_⟩
          refine lc_str (fun i H' => Same H H' ∧ H' D = some (.lst ((((TL.tl x).take i).filter fun c => !decide (c ∈ letters)).map fun c => V.str ⟨#[c]⟩))) ⟨Same.new (Same.refl _) hD, upd_same⟩ (fun i c H' hc p => ?_) (fun H' p => ?_)
          · obtain ⟨p1, p2⟩ := p
            have hc' : (TL.tl x)[i]? = some c := by
              rw [← hc]; exact Array.getElem?_toList
            refine ⟨rfl, _, rfl, c, _, rfl, rfl, _, rfl, ?_⟩
            by_cases hin : c ∈ letters
            · refine iteB0 (by rw [show decide (c ∈ (Str.ofString "abcdefghijklmnopqrstuvwxyz").cps.toList) = true from decide_eq_true hin]; rfl) ⟨p1, ?_⟩
              rw [p2, take_snoc hc', List.filter_append, List.filter_cons_of_neg (by simp [hin])]
              simp
            · refine iteB1 (by rw [show decide (c ∈ (Str.ofString "abcdefghijklmnopqrstuvwxyz").cps.toList) = false from decide_eq_false hin]; rfl) ⟨_, rfl, _, p2, ?_, ?_⟩
              · rw [List.length_map]
                refine Nat.lt_of_le_of_lt (Nat.le_trans (List.length_filter_le _ _) (List.length_take_le' _ _)) ?_
                rw [← TL.len_tl]
                exact Nat.lt_of_le_of_lt (show x.length ≤ 8 by omega) (by decide)
              · refine ⟨fun b o e => ?_, ?_⟩
                · rw [upd_ne (ne_of_none e hD)]; exact p1 b o e
                · rw [upd_same, take_snoc hc', List.filter_append, List.filter_cons_of_pos (by simp [hin]), List.map_append]; rfl
          · obtain ⟨p1, p2⟩ := p
            have e1 : ((TL.tl x).take x.cps.size) = TL.tl x := List.take_of_length_le (by simp [TL.tl])
            rw [e1] at p2
            refine ⟨by show 0 ≤ sizeLine; decide, fun q hq => ?_⟩
            have s2 : Same H' (upd H' q (.lst [])) := Same.new (Same.refl _) hq
            refine ⟨D, q, _, rfl, rfl, SqL.of (s2 _ _ p2), SqL.of upd_same, ?_⟩
            rw [none_out]
            have e2 : wdD (.str x) = (TL.tl x).all fun c => decide (c ∈ letters) := by
              show isWd x = _
              unfold isWd
              rw [decide_eq_true ⟨by have := of_decide_eq_true c1; omega, by omega⟩]
              rfl
            have := k _ (p1.trans s2)
            rw [e2] at this
            exact this
        · refine iteB1 (by rw [decide_eq_false h8]; rfl) ?_
          have e : wdD (.str x) = false := by
            show isWd x = false
            unfold isWd
            rw [decide_eq_false (by omega)]; rfl
          have := k H (Same.refl _)
          rw [e] at this
          exact this
      · refine ⟨_, rfl, iteB1 rfl ?_⟩
        have e : wdD (.str x) = false := by
          show isWd x = false
          unfold isWd
          rw [decide_eq_false (fun z => c1 (decide_eq_true (by omega)))]; rfl
        have := k H (Same.refl _)
        rw [e] at this
        exact this
/-! ### numbers between two ends -/
def btw (lo hi : Int) : PyData → Bool
  | .int i => decide (lo ≤ i) && decide (i ≤ hi)
  | _ => false
def spBtw : Sp := fun vs H Q _ => ∃ (m : Nat) (v : V) (d : PyData) (lo hi : Int), vs = [v, .int lo, .int hi] ∧ Rep H m v d ∧ Q (.bl (btw lo hi d)) H

abbrev sBtw : Stmt := top 6
theorem sc_between : FnScope ["thing", "least", "most"] ["thing", "least", "most"] (defScope sBtw) := ⟨rfl, rfl, rfl, by decide +kernel, rfl, by decide +kernel, by decide +kernel⟩
theorem ok_between {f : Addr} {fd : FuncData} (F : Fun K "is_between" "is_between" sBtw f fd) (mI : mg "isinstance" = none) (mint : mg "int" = none) (mbool : mg "bool" = none) : FnOk P w K mg pB CX0 1 f fd ["thing", "least", "most"] spBtw := by
  refine F.ok sc_between (fun vs H Q E h => ?_) (fun cdv A outer s H vs Q E hr h => ?_)
  · obtain ⟨m, v, d, lo, hi, rfl, _⟩ := h
    rfl
  · obtain ⟨m, v, d, lo, hi, rfl, hR, k⟩ := h
    refine ⟨_, pss_one (ps_ret (pe_and (pe_callB call_isi (by rfl) mI (by decide +kernel) (pa_cons (pv 0) (pa_cons (pe_bltn (by rfl) mint (by decide +kernel) (show RelV (.ty "int") (.type "int") from rfl)) pa_nil))) (pe_and (pe_not (pe_callB call_isi (by rfl) mI (by decide +kernel) (pa_cons (pv 0) (pa_cons (pe_bltn (by rfl) mbool (by decide +kernel) (show RelV (.ty "bool") (.type "bool") from rfl)) pa_nil)))) (pe_one (pe_chain op_le op_le (pv 1) (pv 0) (pv 2)))))), ?_⟩
    refine rd_isi (.inr (.inl rfl)) rfl hR ⟨_, rfl, ?_⟩
    cases d with
    | int i =>
      refine iteB1 rfl (rd_isi (.inr (.inr (.inl rfl))) rfl hR ⟨_, rfl, _, rfl, iteB1 rfl ?_⟩)
      cases rep_int hR
      refine ⟨_, rfl, _, rfl, _, _, rfl, rfl, _, rfl, ?_⟩
      by_cases c : lo ≤ i
      · refine iteB1 (decide_eq_true c) ⟨_, rfl, _, _, rfl, rfl, ?_⟩
        have := k
        rw [btw, decide_eq_true c] at this
        exact this
      · refine iteB0 (decide_eq_false c) ?_
        have := k
        rw [btw, decide_eq_false c] at this
        exact this
    | bool b => exact iteB1 rfl (rd_isi (.inr (.inr (.inl rfl))) rfl hR ⟨_, rfl, _, rfl, iteB0 rfl k⟩)
    | none => exact iteB0 rfl k
    | str x => exact iteB0 rfl k
    | list l => exact iteB0 rfl k
    | tuple l => exact iteB0 rfl k
    | dict l => exact iteB0 rfl k
abbrev sFrom : Stmt := top 18
theorem sc_from : FnScope ["_law_it", "_law_least", "_law_most"] ["_law_it", "_law_least", "_law_most"] (defScope sFrom) := ⟨rfl, rfl, rfl, by decide +kernel, rfl, by decide +kernel, by decide +kernel⟩
theorem ok_from {f : Addr} {fd : FuncData} (F : Fun K "_law_is_from" "_law_is_from" sFrom f fd) (mI : mg "isinstance" = none) (mint : mg "int" = none) (mbool : mg "bool" = none) : FnOk P w K mg pB CX0 1 f fd ["_law_it", "_law_least", "_law_most"] spBtw := by
  refine F.ok sc_from (fun vs H Q E h => ?_) (fun cdv A outer s H vs Q E hr h => ?_)
  · obtain ⟨m, v, d, lo, hi, rfl, _⟩ := h
    rfl
  · obtain ⟨m, v, d, lo, hi, rfl, hR, k⟩ := h
    refine ⟨_, pss_one (ps_ret (pe_and (pe_callB call_isi (by rfl) mI (by decide +kernel) (pa_cons (pv 0) (pa_cons (pe_bltn (by rfl) mint (by decide +kernel) (show RelV (.ty "int") (.type "int") from rfl)) pa_nil))) (pe_and (pe_not (pe_callB call_isi (by rfl) mI (by decide +kernel) (pa_cons (pv 0) (pa_cons (pe_bltn (by rfl) mbool (by decide +kernel) (show RelV (.ty "bool") (.type "bool") from rfl)) pa_nil)))) (pe_one (pe_chain op_le op_le (pv 1) (pv 0) (pv 2)))))), ?_⟩
    refine rd_isi (.inr (.inl rfl)) rfl hR ⟨_, rfl, ?_⟩
    cases d with
    | int i =>
      refine iteB1 rfl (rd_isi (.inr (.inr (.inl rfl))) rfl hR ⟨_, rfl, _, rfl, iteB1 rfl ?_⟩)
      cases rep_int hR
      refine ⟨_, rfl, _, rfl, _, _, rfl, rfl, _, rfl, ?_⟩
      by_cases c : lo ≤ i
      · refine iteB1 (decide_eq_true c) ⟨_, rfl, _, _, rfl, rfl, ?_⟩
        have := k
        rw [btw, decide_eq_true c] at this
        exact this
      · refine iteB0 (decide_eq_false c) ?_
        have := k
        rw [btw, decide_eq_false c] at this
        exact this
    | bool b => exact iteB1 rfl (rd_isi (.inr (.inr (.inl rfl))) rfl hR ⟨_, rfl, _, rfl, iteB0 rfl k⟩)
    | none => exact iteB0 rfl k
    | str x => exact iteB0 rfl k
    | list l => exact iteB0 rfl k
    | tuple l => exact iteB0 rfl k
    | dict l => exact iteB0 rfl k
end
end My

set_option Elab.async false
set_option linter.all false
set_option maxRecDepth 100000
set_option maxHeartbeats 4000000
namespace My
open PySem L2
section
variable {P : Program} {w : World} {K : PySem.W.Frag} {mg : Str → Option Value} {pB : Heap}
theorem Paired.at {α β : Type} {F : α → β → Prop} : ∀ {xs : List α} {ys : List β} {i : Nat} {x : α}, Paired F xs ys → xs[i]? = some x → ∃ y, ys[i]? = some y ∧ F x y
  | _, _, _, _, .nil, e => by simp at e
  | _, _, 0, _, .cons r _, e => by
    simp at e
    subst e
    exact ⟨_, rfl, r⟩
  | _, _, i + 1, x, .cons _ t, e => by
    obtain ⟨y, h1, h2⟩ := Paired.at (i := i) (x := x) t (by simpa using e)
    exact ⟨y, by simpa using h1, h2⟩
/-- the promise of no call at all -/
def spBot : Sp := fun _ _ _ _ => False
theorem ok_bot {k : Nat} {f : Addr} {fd : FuncData} {ps : List Str} : FnOk P w K mg pB CX0 k f fd ps spBot := ⟨fun _ _ _ _ h => h.elim, fun _ _ _ _ _ _ _ _ _ _ _ _ _ h => h.elim⟩
def spWth (n : Nat) : Sp := fun vs H Q _ => ∃ (m : Nat) (v : V) (d : PyData), vs = [v, .int (n : Int)] ∧ Rep H m v d ∧ szD d ≤ 1000000 ∧ ∀ H', Same H H' → Q (.bl (isW n d)) H'
def spPrev : Nat → Sp
  | 0 => spBot
  | n + 1 => spWth n
theorem leaf_or {d : PyData} (h : ∀ ds, d ≠ .tuple ds) (n : Nat) : isW n d = (isNon d || (wdD d || btw (-1000000000) 1000000000 d)) := by
  rw [isW_leaf h]
  cases d with
  | tuple ds => exact absurd rfl (h ds)
  | int i =>
    show decide _ = (false || (false || (decide _ && decide _)))
    rw [Bool.false_or, Bool.false_or, Bool.decide_and]
  | str x =>
    show isWd x = (false || (isWd x || false))
    rw [Bool.false_or, Bool.or_false]
  | none => rfl
  | bool b => rfl
  | list l => rfl
  | dict l => rfl
abbrev sWth : Stmt := top 8
theorem scWth : FnScope ["thing", "levels", "part"] ["thing", "levels"] (defScope sWth) := ⟨rfl, rfl, rfl, by decide +kernel, rfl, by decide +kernel, by decide +kernel⟩
theorem step_within {f fW fB : Addr} {fd dW dB : FuncData} {tk tk2 : Tok} (F : Fun K "is_worth_within" "is_worth_within" sWth f fd) (n : Nat) (G : FnOk P w K mg pB CX0 (n + 1) f fd ["thing", "levels"] (spPrev n)) (mG : mg "is_worth_within" = some (.ref f)) (bG : Binds K fd ["thing", "levels"] [])
    (GW : FnOk P w K mg pB CX0 1 fW dW ["thing"] spIsWord) (mW : mg "is_word" = some (.ref fW)) (kW : PySem.W.keepIn K (.ref fW) = true) (bW : Binds K dW ["thing"] [])
    (GB : FnOk P w K mg pB CX0 1 fB dB ["thing", "least", "most"] spBtw) (mB : mg "is_between" = some (.ref fB)) (kB : PySem.W.keepIn K (.ref fB) = true) (bB : Binds K dB ["thing", "least", "most"] [])
    (mI : mg "isinstance" = none) (mT : mg "tuple" = none) (mLen : mg "len" = none) (mAll : mg "all" = none) (mF : mg "FARTHEST" = some (.int 1000000000 tk)) (mM : mg "MOST_WORTHS" = some (.int 20 tk2)) :
    FnOk P w K mg pB CX0 (n + 2) f fd ["thing", "levels"] (spWth n) := by
  refine F.ok scWth (fun vs H Q E h => ?_) (fun cdv A outer s H vs Q E hr h => ?_)
  · obtain ⟨m, v, d, rfl, _⟩ := h
    rfl
  · obtain ⟨m, v, d, rfl, hR, hz, k⟩ := h
    have nd := scWth.nd
    have hr1 : Room 1 _ := hr.mono (by omega)
    have pF : ∀ {X : Cx} {p : Pos}, Gl X "FARTHEST" → X.mg "FARTHEST" = some (.int 1000000000 tk) → PE X (.Name "FARTHEST" p) (tC (.int 1000000000)) := fun hg hm => pe_glob hg hm (show RelV (.int 1000000000) _ from ⟨_, rfl⟩)
    refine ⟨_, pss_cons (ps_if (pt_not (pt_val (pe_callB call_isi (by rfl) mI (by decide +kernel) (pa_cons (pv 0) (pa_cons (pe_bltn (by rfl) mT (by decide +kernel) (show RelV (.ty "tuple") (.type "tuple") from rfl)) pa_nil)))))
        (pss_one (ps_ret (pe_or (pe_cmp (pc_isN (pv 0)) rfl) (pe_or (pe_call GW hr1 rfl mW kW bW .nil pass0 (pa_cons (pv 0) pa_nil))
          (pe_one (pe_call GB hr1 rfl mB kB bB .nil pass0 (pa_cons (pv 0) (pa_cons (pe_un un_neg (pF (by rfl) mF)) (pa_cons (pF (by rfl) mF) pa_nil)))))))))  pss_nil)
      (pss_cons (ps_if (PW.pt (pw_or (pt_cmpR op_eq (pv 1) pe_int (nomark _)) (pw_or1 (pt_cmpR op_gt (pe_callB call_len_seq (by rfl) mLen PySem.boot_len (pa_cons (pv 0) pa_nil)) (pe_glob (by rfl) mM (show RelV (.int 20) _ from ⟨_, rfl⟩)) (nomark _)))))
        (pss_one (ps_ret pe_bl)) pss_nil)
      (pss_one (ps_ret (pe_callB (cr_all rfl) (by rfl) mAll (by decide +kernel) (pa_cons
        (pe_lc (own := [("part", 2)]) (g := gName 2) (tt := tYes) (te := tCall (spPrev n) [] E0 (tCons (tVar 2) (tCons (tOp (rI0 fun i j => .int (i - j)) (tVar 1) (tC (.int 1))) tNil))) rfl nd (pi_tup (pv 0))
          (blkOk_by (N := ["thing", "levels", "part"]) (sc := defScope sWth) (by decide +kernel)) (fun _ _ _ _ _ => pg_name (i := 2) nd rfl (Or.inl rfl) (Or.inr rfl)) (fun _ _ _ _ _ => pts_nil)
          (fun _ _ _ _ _ => pe_call G hr rfl mG F.kp bG .nil pass0 (pa_cons (pv 2) (pa_cons (pe_op op_sub (pv 1) pe_int) pa_nil)))) pa_nil))))), ?_⟩
    refine rd_isi (.inr (.inr (.inr rfl))) rfl hR ⟨_, rfl, ?_⟩
    rcases @notTup d with ⟨ds, rfl⟩ | hn
    · refine iteB0 rfl ?_
      obtain ⟨m', a, xs, rfl, rfl, ha, hp⟩ := rep_tup hR
      have hlen := Paired.length hp
      cases n with
      | zero =>
        refine ⟨_, rfl, rfl, _, rfl, iteY rfl (iteT ?_)⟩
        exact k H (Same.refl _)
      | succ n =>
        refine ⟨_, rfl, rfl, _, rfl, iteN (by intro z; have := V.int.inj z; omega) ?_⟩
        refine ⟨_, rfl, a, xs, rfl, .inr (SqT.of ha), _, _, rfl, rfl, _, rfl, ?_⟩
        by_cases h20 : ds.length ≤ 20
        · refine iteB0 (decide_eq_false (by omega)) ?_
          refine ⟨_, rfl, a, rfl, ⟨_, SqT.of ha⟩, fun D hD => ?_⟩
          refine lc_tup (K := K) (xs := xs) (fun i H' => Same H H' ∧ H' D = some (.lst ((ds.take i).map fun e => V.bl (isW n e)))) ⟨Same.new (Same.refl _) hD, upd_same⟩ (fun i H' _ p => SqT.of (p.1 _ _ ha)) (fun i x H' hx p => ?_) (fun H' p => ?_)
          · obtain ⟨p1, p2⟩ := p
            obtain ⟨e, he, hre⟩ := Paired.at hp hx
            have hsz : szD e ≤ 1000000 := by
              have h1 := szL_get he
              rw [szD] at hz
              omega
            refine ⟨rfl, yes_of (iteT ?_)⟩
            refine ⟨_, rfl, _, rfl, _, _, rfl, rfl, m', x, e, ?_, hre.same p1, hsz, fun H2 s2 => ⟨_, s2 _ _ p2, ?_, ?_⟩⟩
            · show [x, V.int (((n + 1 : Nat) : Int) - 1)] = [x, V.int (n : Int)]
              rw [show (((n + 1 : Nat) : Int) - 1) = (n : Int) by omega]
            · rw [List.length_map]
              refine Nat.lt_of_le_of_lt (List.length_take_le' _ _) (Nat.lt_of_le_of_lt h20 (by decide))
            · refine ⟨fun b o ec => ?_, ?_⟩
              · rw [upd_ne (ne_of_none ec hD)]; exact s2 _ _ (p1 b o ec)
              · rw [upd_same, take_snoc he, List.map_append]; rfl
          · obtain ⟨p1, p2⟩ := p
            rw [hlen, List.take_length] at p2
            refine ⟨D, ds.map (isW n), rfl, SqL.of (by rw [p2, List.map_map]; rfl), ?_⟩
            have e2 : isW (n + 1) (.tuple ds) = (ds.map (isW n)).all id := by
              rw [isW, decide_eq_true h20, Bool.true_and, List.all_map]; rfl
            have := k H' p1
            rw [e2] at this
            exact this
        · refine iteB1 (decide_eq_true (by omega)) ?_
          have e2 : isW (n + 1) (.tuple ds) = false := by
            rw [isW, decide_eq_false h20]; rfl
          have := k H (Same.refl _)
          rw [e2] at this
          exact this
    · refine iteB1 (by cases d <;> first | rfl | exact absurd rfl (hn _)) ?_
      refine ⟨_, rfl, _, rfl, ?_⟩
      rw [rep_nonn hR]
      have e0 := leaf_or hn n
      cases hnn : isNon d with
      | true =>
        rw [hnn] at e0
        have := k H (Same.refl _)
        rw [e0] at this
        exact iteT this
      | false =>
        rw [hnn, Bool.false_or] at e0
        refine iteF ⟨_, rfl, m, v, d, rfl, hR, hz, fun H1 s1 => ⟨_, rfl, ?_⟩⟩
        cases hw : wdD d with
        | true =>
          rw [hw] at e0
          have := k H1 s1
          rw [e0] at this
          exact iteT this
        | false =>
          rw [hw, Bool.false_or] at e0
          refine iteF ⟨_, rfl, _, rfl, m, v, d, -1000000000, 1000000000, rfl, hR.same s1, ?_⟩
          have := k H1 s1
          rw [e0] at this
          exact this
theorem ok_within {f fW fB : Addr} {fd dW dB : FuncData} {tk tk2 : Tok} (F : Fun K "is_worth_within" "is_worth_within" sWth f fd) (mG : mg "is_worth_within" = some (.ref f)) (bG : Binds K fd ["thing", "levels"] [])
    (GW : FnOk P w K mg pB CX0 1 fW dW ["thing"] spIsWord) (mW : mg "is_word" = some (.ref fW)) (kW : PySem.W.keepIn K (.ref fW) = true) (bW : Binds K dW ["thing"] [])
    (GB : FnOk P w K mg pB CX0 1 fB dB ["thing", "least", "most"] spBtw) (mB : mg "is_between" = some (.ref fB)) (kB : PySem.W.keepIn K (.ref fB) = true) (bB : Binds K dB ["thing", "least", "most"] [])
    (mI : mg "isinstance" = none) (mT : mg "tuple" = none) (mLen : mg "len" = none) (mAll : mg "all" = none) (mF : mg "FARTHEST" = some (.int 1000000000 tk)) (mM : mg "MOST_WORTHS" = some (.int 20 tk2)) :
    ∀ n, FnOk P w K mg pB CX0 (n + 2) f fd ["thing", "levels"] (spWth n)
  | 0 => step_within F 0 ok_bot mG bG GW mW kW bW GB mB kB bB mI mT mLen mAll mF mM
  | n + 1 => step_within F (n + 1) (ok_within F mG bG GW mW kW bW GB mB kB bB mI mT mLen mAll mF mM n) mG bG GW mW kW bW GB mB kB bB mI mT mLen mAll mF mM
end
end My

set_option Elab.async false
set_option linter.all false
set_option maxRecDepth 100000
set_option maxHeartbeats 4000000
namespace My
open PySem L2
section
variable {P : Program} {w : World} {K : PySem.W.Frag} {mg : Str → Option Value} {pB : Heap}
def spIsWorth : Sp := fun vs H Q _ => ∃ (m : Nat) (v : V) (d : PyData), vs = [v] ∧ Rep H m v d ∧ szD d ≤ 1000000 ∧ ∀ H', Same H H' → Q (.bl (isW 4 d)) H'
abbrev sIsWorth : Stmt := top 7
theorem scIsWorth : FnScope ["thing"] ["thing"] (defScope sIsWorth) := ⟨rfl, rfl, rfl, by decide +kernel, rfl, by decide +kernel, by decide +kernel⟩
theorem ok_isworth {f fG : Addr} {fd dG : FuncData} {tk : Tok} (F : Fun K "is_worth" "is_worth" sIsWorth f fd) (G : FnOk P w K mg pB CX0 6 fG dG ["thing", "levels"] (spWth 4)) (mG : mg "is_worth_within" = some (.ref fG)) (kG : PySem.W.keepIn K (.ref fG) = true) (bG : Binds K dG ["thing", "levels"] [])
    (mL : mg "WORTH_LEVELS" = some (.int 4 tk)) : FnOk P w K mg pB CX0 7 f fd ["thing"] spIsWorth := by
  refine F.ok scIsWorth (fun vs H Q E h => ?_) (fun cdv A outer s H vs Q E hr h => ?_)
  · obtain ⟨m, v, d, rfl, _⟩ := h
    rfl
  · obtain ⟨m, v, d, rfl, hR, hz, k⟩ := h
    refine ⟨_, pss_one (ps_ret (pe_call G hr rfl mG kG bG .nil pass0 (pa_cons (pv 0) (pa_cons (pe_glob (by rfl) mL (show RelV (.int 4) _ from ⟨_, rfl⟩)) pa_nil)))), ?_⟩
    exact ⟨_, rfl, m, v, d, rfl, hR, hz, k⟩
abbrev sLWorth : Stmt := top 20
theorem scLWorth : FnScope ["_law_it", "_law_left", "_law_one"] ["_law_it", "_law_left"] (defScope sLWorth) := ⟨rfl, rfl, rfl, by decide +kernel, rfl, by decide +kernel, by decide +kernel⟩
theorem step_lworth {f fW fB : Addr} {fd dW dB : FuncData} (F : Fun K "_law_is_worth" "_law_is_worth" sLWorth f fd) (n : Nat) (G : FnOk P w K mg pB CX0 (n + 1) f fd ["_law_it", "_law_left"] (spPrev n)) (mG : mg "_law_is_worth" = some (.ref f)) (bG : Binds K fd ["_law_it", "_law_left"] [])
    (GW : FnOk P w K mg pB CX0 1 fW dW ["_law_it"] spIsWord) (mW : mg "_law_is_word" = some (.ref fW)) (kW : PySem.W.keepIn K (.ref fW) = true) (bW : Binds K dW ["_law_it"] [])
    (GB : FnOk P w K mg pB CX0 1 fB dB ["_law_it", "_law_least", "_law_most"] spBtw) (mB : mg "_law_is_from" = some (.ref fB)) (kB : PySem.W.keepIn K (.ref fB) = true) (bB : Binds K dB ["_law_it", "_law_least", "_law_most"] [])
    (mI : mg "isinstance" = none) (mT : mg "tuple" = none) (mLen : mg "len" = none) : FnOk P w K mg pB CX0 (n + 2) f fd ["_law_it", "_law_left"] (spWth n) := by
  refine F.ok scLWorth (fun vs H Q E h => ?_) (fun cdv A outer s H vs Q E hr h => ?_)
  · obtain ⟨m, v, d, rfl, _⟩ := h
    rfl
  · obtain ⟨m, v, d, rfl, hR, hz, k⟩ := h
    have nd := scLWorth.nd
    have hr1 : Room 1 _ := hr.mono (by omega)
    refine ⟨_, pss_cons (ps_if (pt_val (pe_callB call_isi (by rfl) mI (by decide +kernel) (pa_cons (pv 0) (pa_cons (pe_bltn (by rfl) mT (by decide +kernel) (show RelV (.ty "tuple") (.type "tuple") from rfl)) pa_nil))))
        (pss_one (ps_ret (pe_and (pe_cmpR op_gt (pv 1) pe_int (nomark _)) (pe_and (pe_cmpR op_le (pe_callB call_len_seq (by rfl) mLen PySem.boot_len (pa_cons (pv 0) pa_nil)) pe_int (nomark _))
          (pe_one (pe_cmpR (op_eqL0 hr.units)
            (pe_lc (own := [("_law_one", 2)]) (g := gName 2) (tt := tNot (tB (tCall (spPrev n) [] E0 (tCons (tVar 2) (tCons (tOp (rI0 fun i j => .int (i - j)) (tVar 1) (tC (.int 1))) tNil))))) (te := tVar 2) rfl nd (pi_tup (pv 0))
              (blkOk_by (N := ["_law_it", "_law_left", "_law_one"]) (sc := defScope sLWorth) (by decide +kernel)) (fun _ _ _ _ _ => pg_name (i := 2) nd rfl (Or.inl rfl) (Or.inr rfl))
              (fun _ _ _ _ _ => pts_one (pt_not (pt_val (pe_call G hr rfl mG F.kp bG .nil pass0 (pa_cons (pv 2) (pa_cons (pe_op op_sub (pv 1) pe_int) pa_nil)))))) (fun _ _ _ _ _ => pv 2))
            (pe_lst pa_nil) (nomark _))))))) pss_nil)
      (pss_one (ps_ret (pe_or (pe_cmp (pc_isN (pv 0)) rfl) (pe_or (pe_call GW hr1 rfl mW kW bW .nil pass0 (pa_cons (pv 0) pa_nil))
          (pe_one (pe_call GB hr1 rfl mB kB bB .nil pass0 (pa_cons (pv 0) (pa_cons (pe_un un_neg pe_int) (pa_cons pe_int pa_nil))))))))), ?_⟩
    refine rd_isi (.inr (.inr (.inr rfl))) rfl hR ⟨_, rfl, ?_⟩
    rcases @notTup d with ⟨ds, rfl⟩ | hn
    · refine iteB1 rfl ?_
      obtain ⟨m', a, xs, rfl, rfl, ha, hp⟩ := rep_tup hR
      have hlen := Paired.length hp
      cases n with
      | zero =>
        refine ⟨_, rfl, _, _, rfl, rfl, _, rfl, iteB0 rfl ?_⟩
        exact k H (Same.refl _)
      | succ n =>
        refine ⟨_, rfl, _, _, rfl, rfl, _, rfl, iteB1 (decide_eq_true (by omega)) ?_⟩
        refine ⟨_, rfl, a, xs, rfl, .inr (SqT.of ha), _, _, rfl, rfl, _, rfl, ?_⟩
        by_cases h20 : ds.length ≤ 20
        · refine iteB1 (decide_eq_true (by omega)) ?_
          refine ⟨_, rfl, a, rfl, ⟨_, SqT.of ha⟩, fun D hD => ?_⟩
          refine lc_tup (K := K) (xs := xs) (fun i H' => Same H H' ∧ ∃ ys, H' D = some (.lst ys) ∧ ys.isEmpty = (ds.take i).all (isW n) ∧ ys.length ≤ i) ⟨Same.new (Same.refl _) hD, [], upd_same, rfl, Nat.le_refl _⟩ (fun i H' _ p => SqT.of (p.1 _ _ ha)) (fun i x H' hx p => ?_) (fun H' p => ?_)
          · obtain ⟨p1, ys, p2, p3, p4⟩ := p
            obtain ⟨e, he, hre⟩ := Paired.at hp hx
            have hsz : szD e ≤ 1000000 := by
              have h1 := szL_get he
              rw [szD] at hz
              omega
            have hix : i < 21 := by
              have := (List.getElem?_eq_some_iff.mp hx).1
              omega
            refine ⟨rfl, _, rfl, _, rfl, _, _, rfl, rfl, m', x, e, ?_, hre.same p1, hsz, fun H2 s2 => ⟨_, rfl, ?_⟩⟩
            · show [x, V.int (((n + 1 : Nat) : Int) - 1)] = [x, V.int (n : Int)]
              rw [show (((n + 1 : Nat) : Int) - 1) = (n : Int) by omega]
            · cases hw : isW n e with
              | true =>
                refine iteF ⟨p1.trans s2, ys, s2 _ _ p2, ?_, by omega⟩
                rw [p3, take_snoc he, List.all_append]; simp [hw]
              | false =>
                refine iteT ⟨_, rfl, ys, s2 _ _ p2, Nat.lt_of_le_of_lt (show ys.length ≤ 20 by omega) (by decide), fun b o ec => ?_, ys ++ [x], upd_same, ?_, ?_⟩
                · rw [upd_ne (ne_of_none ec hD)]; exact s2 _ _ (p1 b o ec)
                · rw [take_snoc he, List.all_append]; simp [hw]
                · rw [List.length_append]; show _ + 1 ≤ _; omega
          · obtain ⟨p1, ys, p2, p3, p4⟩ := p
            rw [hlen, List.take_length] at p3
            refine ⟨by show 0 ≤ sizeLine; decide, fun q hq => ?_⟩
            have s2 : Same H' (upd H' q (.lst [])) := Same.new (Same.refl _) hq
            refine ⟨D, q, ys, rfl, rfl, SqL.of (s2 _ _ p2), SqL.of upd_same, ?_⟩
            have e2 : isW (n + 1) (.tuple ds) = ys.isEmpty := by
              rw [isW, decide_eq_true h20, Bool.true_and, p3]
            have := k _ (p1.trans s2)
            rw [e2] at this
            exact this
        · refine iteB0 (decide_eq_false (by omega)) ?_
          have e2 : isW (n + 1) (.tuple ds) = false := by
            rw [isW, decide_eq_false h20]; rfl
          have := k H (Same.refl _)
          rw [e2] at this
          exact this
    · refine iteB0 (by cases d <;> first | rfl | exact absurd rfl (hn _)) ?_
      refine ⟨_, rfl, _, rfl, ?_⟩
      rw [rep_nonn hR]
      have e0 := leaf_or hn n
      cases hnn : isNon d with
      | true =>
        rw [hnn] at e0
        have := k H (Same.refl _)
        rw [e0] at this
        exact iteT this
      | false =>
        rw [hnn, Bool.false_or] at e0
        refine iteF ⟨_, rfl, m, v, d, rfl, hR, hz, fun H1 s1 => ⟨_, rfl, ?_⟩⟩
        cases hw : wdD d with
        | true =>
          rw [hw] at e0
          have := k H1 s1
          rw [e0] at this
          exact iteT this
        | false =>
          rw [hw, Bool.false_or] at e0
          refine iteF ⟨_, rfl, _, rfl, m, v, d, -1000000000, 1000000000, rfl, hR.same s1, ?_⟩
          have := k H1 s1
          rw [e0] at this
          exact this
theorem ok_lworth {f fW fB : Addr} {fd dW dB : FuncData} (F : Fun K "_law_is_worth" "_law_is_worth" sLWorth f fd) (mG : mg "_law_is_worth" = some (.ref f)) (bG : Binds K fd ["_law_it", "_law_left"] [])
    (GW : FnOk P w K mg pB CX0 1 fW dW ["_law_it"] spIsWord) (mW : mg "_law_is_word" = some (.ref fW)) (kW : PySem.W.keepIn K (.ref fW) = true) (bW : Binds K dW ["_law_it"] [])
    (GB : FnOk P w K mg pB CX0 1 fB dB ["_law_it", "_law_least", "_law_most"] spBtw) (mB : mg "_law_is_from" = some (.ref fB)) (kB : PySem.W.keepIn K (.ref fB) = true) (bB : Binds K dB ["_law_it", "_law_least", "_law_most"] [])
    (mI : mg "isinstance" = none) (mT : mg "tuple" = none) (mLen : mg "len" = none) : ∀ n, FnOk P w K mg pB CX0 (n + 2) f fd ["_law_it", "_law_left"] (spWth n)
  | 0 => step_lworth F 0 ok_bot mG bG GW mW kW bW GB mB kB bB mI mT mLen
  | n + 1 => step_lworth F (n + 1) (ok_lworth F mG bG GW mW kW bW GB mB kB bB mI mT mLen n) mG bG GW mW kW bW GB mB kB bB mI mT mLen
end
end My

set_option Elab.async false
set_option linter.all false
set_option maxRecDepth 100000
set_option maxHeartbeats 4000000
namespace My
open PySem L2
section
variable {P : Program} {w : World} {K : PySem.W.Frag} {mg : Str → Option Value} {pB : Heap}
/-! ### texts of worths -/
theorem sum_sh {n : Nat} : ∀ {ds : List PyData}, (∀ d ∈ ds, isW n d = true) → ((ds.map (shW n)).map (·.length)).sum + ds.length ≤ 12 * szL ds
  | [], _ => by simp
  | d :: ds, h => by
    have h1 := shW_len (h d (List.mem_cons_self ..))
    have h2 := sum_sh fun z hz => h z (List.mem_cons_of_mem _ hz)
    rw [List.map_cons, List.map_cons, List.sum_cons, List.length_cons, szL]
    omega
theorem fit_sh {n : Nat} {ds : List PyData} (h : ∀ d ∈ ds, isW n d = true) (hz : szD (.tuple ds) ≤ 40000) :
    ((((("<" : Str) :: ds.map (shW n)) ++ [(">" : Str)]).map (·.length)).sum + ((("<" : Str) :: ds.map (shW n)) ++ [(">" : Str)]).length * (Str.length " ") ≤ 16777216) := by
  have h1 := sum_sh h
  rw [szD] at hz
  have e1 : Str.length " " = 1 := by decide +kernel
  have e2 : Str.length "<" = 1 := by decide +kernel
  have e3 : Str.length ">" = 1 := by decide +kernel
  rw [e1, List.map_append, List.sum_append, List.map_cons, List.sum_cons, List.length_append, List.length_cons, List.length_map]
  simp only [List.map_cons, List.map_nil, List.sum_cons, List.sum_nil, e2, e3, List.length_cons, List.length_nil]
  omega
def spShow (n : Nat) : Sp := fun vs H Q _ => ∃ (m : Nat) (v : V) (d : PyData), vs = [v] ∧ Rep H m v d ∧ isW n d = true ∧ szD d ≤ 40000 ∧ ∀ H', Same H H' → Q (.str (shW n d)) H'
def spPrevS : Nat → Sp
  | 0 => spBot
  | n + 1 => spShow n
theorem log_small {i : Int} (h : -1000000000 ≤ i ∧ i ≤ 1000000000) : i.natAbs.log2 < 1920 := by
  by_cases h3 : i.natAbs = 0
  · rw [h3]; decide
  · refine (Nat.log2_lt h3).mpr (Nat.lt_of_lt_of_le (show i.natAbs < 2 ^ 40 by omega) (Nat.pow_le_pow_right (by decide) (by decide)))
def spBr : Sp := fun vs H Q _ => ∃ (o c : Str) (l : Addr) (ts : List Str), vs = [.str o, .ref l, .str c] ∧ H l = some (.lst (ts.map V.str)) ∧ ts.length ≤ 100 ∧
  (((o :: ts) ++ [c]).map (·.length)).sum + ((o :: ts) ++ [c]).length * (Str.length " ") ≤ 16777216 ∧ ∀ H', Same H H' → Q (.str (Txt.join " " ((o :: ts) ++ [c]))) H'
abbrev sBr : Stmt := top 11
theorem scBr : FnScope ["opening", "texts", "closing"] ["opening", "texts", "closing"] (defScope sBr) := ⟨rfl, rfl, rfl, by decide +kernel, rfl, by decide +kernel, by decide +kernel⟩
theorem ok_br {f : Addr} {fd : FuncData} (F : Fun K "bracketed" "bracketed" sBr f fd) : FnOk P w K mg pB CX0 1 f fd ["opening", "texts", "closing"] spBr := by
  refine F.ok scBr (fun vs H Q E h => ?_) (fun cdv A outer s H vs Q E hr h => ?_)
  · obtain ⟨o, c, l, ts, rfl, _⟩ := h
    rfl
  · obtain ⟨o, c, l, ts, rfl, hl, ht, hz, k⟩ := h
    refine ⟨_, pss_one (ps_ret (pe_join pe_str (pe_lst (pa_cons (pv 0) (StX.pa_star (pv 1) (pa_cons (pv 2) pa_nil)))))), ?_⟩
    refine ⟨⟨_, rfl⟩, _, rfl, _, rfl, l, _, rfl, .inr (SqL.of hl), _, rfl, ?_, fun q hq => ?_⟩
    · show ((ts.map V.str) ++ [V.str c]).length + 1 ≤ sizeLine
      rw [List.length_append, List.length_map]
      exact Nat.le_trans (show ts.length + 1 + 1 ≤ 102 by omega) (by decide)
    · refine ⟨_, q, (o :: ts) ++ [c], rfl, rfl, .inl (SqL.of ?_), hz, k _ (Same.new (Same.refl _) hq)⟩
      rw [upd_same]
      simp
abbrev sShow : Stmt := top 10
theorem scShow : FnScope ["worth", "part"] ["worth"] (defScope sShow) := ⟨rfl, rfl, rfl, by decide +kernel, rfl, by decide +kernel, by decide +kernel⟩
theorem step_show {f fB : Addr} {fd dB : FuncData} (F : Fun K "show_worth" "show_worth" sShow f fd) (n : Nat) (G : FnOk P w K mg pB CX0 (n + 1) f fd ["worth"] (spPrevS n)) (mG : mg "show_worth" = some (.ref f)) (bG : Binds K fd ["worth"] [])
    (GB : FnOk P w K mg pB CX0 1 fB dB ["opening", "texts", "closing"] spBr) (mB : mg "bracketed" = some (.ref fB)) (kB : PySem.W.keepIn K (.ref fB) = true) (bB : Binds K dB ["opening", "texts", "closing"] [])
    (mI : mg "isinstance" = none) (mT : mg "tuple" = none) : FnOk P w K mg pB CX0 (n + 2) f fd ["worth"] (spShow n) := by
  refine F.ok scShow (fun vs H Q E h => ?_) (fun cdv A outer s H vs Q E hr h => ?_)
  · obtain ⟨m, v, d, rfl, _⟩ := h
    rfl
  · obtain ⟨m, v, d, rfl, hR, hW, hz, k⟩ := h
    have nd := scShow.nd
    have hr1 : Room 1 _ := hr.mono (by omega)
    refine ⟨_, pss_cons (ps_if (pt_cmp (pc_isN (pv 0))) (pss_one (ps_ret pe_str)) pss_nil)
      (pss_one (ps_ret (pe_ifExp (pt_val (pe_callB call_isi (by rfl) mI (by decide +kernel) (pa_cons (pv 0) (pa_cons (pe_bltn (by rfl) mT (by decide +kernel) (show RelV (.ty "tuple") (.type "tuple") from rfl)) pa_nil))))
        (pe_call GB hr1 rfl mB kB bB .nil pass0 (pa_cons pe_str (pa_cons
          (pe_lc (own := [("part", 1)]) (g := gName 1) (tt := tYes) (te := tCall (spPrevS n) [] E0 (tCons (tVar 1) tNil)) rfl nd (pi_tup (pv 0))
            (blkOk_by (N := ["worth", "part"]) (sc := defScope sShow) (by decide +kernel)) (fun _ _ _ _ _ => pg_name (i := 1) nd rfl (Or.inl rfl) (Or.inr rfl)) (fun _ _ _ _ _ => pts_nil)
            (fun _ _ _ _ _ => pe_call G hr rfl mG F.kp bG .nil pass0 (pa_cons (pv 1) pa_nil)))
          (pa_cons pe_str pa_nil))))
        (pe_joined1 (pe_fmt (pv 0)))))), ?_⟩
    refine ⟨_, rfl, _, rfl, ?_⟩
    rw [rep_nonn hR]
    rcases @notTup d with ⟨ds, rfl⟩ | hn
    · refine iteB0 rfl (rd_isi (.inr (.inr (.inr rfl))) rfl hR ⟨_, rfl, iteB1 rfl ?_⟩)
      obtain ⟨m', a, xs, rfl, rfl, ha, hp⟩ := rep_tup hR
      obtain ⟨n', rfl, h20, hall⟩ := isW_tup hW
      have hlen := Paired.length hp
      refine ⟨_, rfl, a, rfl, ⟨_, SqT.of ha⟩, fun D hD => ?_⟩
      refine lc_tup (K := K) (xs := xs) (fun i H' => Same H H' ∧ H' D = some (.lst (((ds.take i).map (shW n')).map V.str))) ⟨Same.new (Same.refl _) hD, upd_same⟩ (fun i H' _ p => SqT.of (p.1 _ _ ha)) (fun i x H' hx p => ?_) (fun H' p => ?_)
      · obtain ⟨p1, p2⟩ := p
        obtain ⟨e, he, hre⟩ := Paired.at hp hx
        have hsz : szD e ≤ 40000 := by
          have h1 := szL_get he
          rw [szD] at hz
          omega
        refine ⟨rfl, yes_of (iteT ?_)⟩
        refine ⟨_, rfl, m', x, e, rfl, hre.same p1, hall e (List.mem_of_getElem? he), hsz, fun H2 s2 => ⟨_, s2 _ _ p2, ?_, ?_⟩⟩
        · rw [List.length_map, List.length_map]
          refine Nat.lt_of_le_of_lt (List.length_take_le' _ _) (Nat.lt_of_le_of_lt h20 (by decide))
        · refine ⟨fun b o ec => ?_, ?_⟩
          · rw [upd_ne (ne_of_none ec hD)]; exact s2 _ _ (p1 b o ec)
          · rw [upd_same, take_snoc he, List.map_append, List.map_append]; rfl
      · obtain ⟨p1, p2⟩ := p
        rw [hlen, List.take_length] at p2
        refine ⟨"<", ">", D, ds.map (shW n'), rfl, p2, by rw [List.length_map]; omega, fit_sh hall hz, fun H2 s2 => ?_⟩
        exact k H2 (p1.trans s2)
    · have hleaf : leafW d = true := by rw [← isW_leaf hn]; exact hW
      have esh : shW n d = leafT d := shW_leaf hn
      cases d with
      | tuple ds => exact absurd rfl (hn ds)
      | none =>
        refine iteB1 rfl ?_
        have := k H (Same.refl _)
        rw [esh] at this
        exact this
      | int i =>
        refine iteB0 rfl (rd_isi (.inr (.inr (.inr rfl))) rfl hR ⟨_, rfl, iteB0 rfl ?_⟩)
        cases rep_int hR
        refine ⟨_, rfl, .inr ⟨i, rfl, log_small (of_decide_eq_true hleaf), ?_⟩⟩
        have := k H (Same.refl _)
        rw [esh] at this
        exact this
      | str x =>
        refine iteB0 rfl (rd_isi (.inr (.inr (.inr rfl))) rfl hR ⟨_, rfl, iteB0 rfl ?_⟩)
        cases rep_str hR
        refine ⟨_, rfl, .inl ⟨x, rfl, ?_, ?_⟩⟩
        · rw [szD] at hz
          rw [sizeLine_eq]; omega
        · have := k H (Same.refl _)
          rw [esh] at this
          exact this
      | bool b => exact absurd (show false = true from hleaf) Bool.false_ne_true
      | list l => exact absurd (show false = true from hleaf) Bool.false_ne_true
      | dict l => exact absurd (show false = true from hleaf) Bool.false_ne_true
theorem ok_show {f fB : Addr} {fd dB : FuncData} (F : Fun K "show_worth" "show_worth" sShow f fd) (mG : mg "show_worth" = some (.ref f)) (bG : Binds K fd ["worth"] [])
    (GB : FnOk P w K mg pB CX0 1 fB dB ["opening", "texts", "closing"] spBr) (mB : mg "bracketed" = some (.ref fB)) (kB : PySem.W.keepIn K (.ref fB) = true) (bB : Binds K dB ["opening", "texts", "closing"] [])
    (mI : mg "isinstance" = none) (mT : mg "tuple" = none) : ∀ n, FnOk P w K mg pB CX0 (n + 2) f fd ["worth"] (spShow n)
  | 0 => step_show F 0 ok_bot mG bG GB mB kB bB mI mT
  | n + 1 => step_show F (n + 1) (ok_show F mG bG GB mB kB bB mI mT n) mG bG GB mB kB bB mI mT
/-! ### the law's own text -/
theorem call_str2 {X : Cx} : CallR X (.type "str") (fun xs H Q => (∃ a, xs = [.str a] ∧ Q (.str a) H) ∨ ∃ i, xs = [.int i] ∧ i.natAbs.log2 < 1920 ∧ Q (.str (toString i)) H) := by
  intro pins s σ H xs us Q I r h
  rcases h with h | h
  · exact SkE.call_str_str pins s σ H xs us Q I r h
  · exact call_str_int pins s σ H xs us Q I r h
abbrev sShown : Stmt := top 21
theorem scShown : FnScope ["_law_it", "_law_one"] ["_law_it"] (defScope sShown) := ⟨rfl, rfl, rfl, by decide +kernel, rfl, by decide +kernel, by decide +kernel⟩
theorem step_shown {f : Addr} {fd : FuncData} (F : Fun K "_law_shown" "_law_shown" sShown f fd) (n : Nat) (G : FnOk P w K mg pB CX0 (n + 1) f fd ["_law_it"] (spPrevS n)) (mG : mg "_law_shown" = some (.ref f)) (bG : Binds K fd ["_law_it"] [])
    (mI : mg "isinstance" = none) (mT : mg "tuple" = none) (mS : mg "str" = none) : FnOk P w K mg pB CX0 (n + 2) f fd ["_law_it"] (spShow n) := by
  refine F.ok scShown (fun vs H Q E h => ?_) (fun cdv A outer s H vs Q E hr h => ?_)
  · obtain ⟨m, v, d, rfl, _⟩ := h
    rfl
  · obtain ⟨m, v, d, rfl, hR, hW, hz, k⟩ := h
    have nd := scShown.nd
    refine ⟨_, pss_cons (ps_if (pt_val (pe_callB call_isi (by rfl) mI (by decide +kernel) (pa_cons (pv 0) (pa_cons (pe_bltn (by rfl) mT (by decide +kernel) (show RelV (.ty "tuple") (.type "tuple") from rfl)) pa_nil))))
        (pss_one (ps_ret (pe_join pe_str (pe_op op_cat (pe_op op_cat (pe_lst (pa_cons pe_str pa_nil))
          (pe_lc (own := [("_law_one", 1)]) (g := gName 1) (tt := tYes) (te := tCall (spPrevS n) [] E0 (tCons (tVar 1) tNil)) rfl nd (pi_tup (pv 0))
            (blkOk_by (N := ["_law_it", "_law_one"]) (sc := defScope sShown) (by decide +kernel)) (fun _ _ _ _ _ => pg_name (i := 1) nd rfl (Or.inl rfl) (Or.inr rfl)) (fun _ _ _ _ _ => pts_nil)
            (fun _ _ _ _ _ => pe_call G hr rfl mG F.kp bG .nil pass0 (pa_cons (pv 1) pa_nil)))) (pe_lst (pa_cons pe_str pa_nil)))))) pss_nil)
      (pss_one (ps_ret (pe_ifExp (pt_cmp (pc_isN (pv 0))) pe_str (pe_callTy call_str2 (by rfl) mS (by decide +kernel) (pa_cons (pv 0) pa_nil))))), ?_⟩
    refine rd_isi (.inr (.inr (.inr rfl))) rfl hR ⟨_, rfl, ?_⟩
    rcases @notTup d with ⟨ds, rfl⟩ | hn
    · refine iteB1 rfl ?_
      obtain ⟨m', a, xs, rfl, rfl, ha, hp⟩ := rep_tup hR
      obtain ⟨n', rfl, h20, hall⟩ := isW_tup hW
      have hlen := Paired.length hp
      refine ⟨⟨_, rfl⟩, by show 1 ≤ sizeLine; decide, fun o1 ho1 => ?_⟩
      have s0 : Same H (upd H o1 (.lst [.str "<"])) := Same.new (Same.refl _) ho1
      refine ⟨_, rfl, a, rfl, ⟨_, SqT.of (s0 _ _ ha)⟩, fun D hD => ?_⟩
      refine lc_tup (K := K) (xs := xs) (fun i H' => Same (upd H o1 (.lst [.str "<"])) H' ∧ H' D = some (.lst (((ds.take i).map (shW n')).map V.str))) ⟨Same.new (Same.refl _) hD, upd_same⟩ (fun i H' _ p => SqT.of (p.1 _ _ (s0 _ _ ha))) (fun i x H' hx p => ?_) (fun H' p => ?_)
      · obtain ⟨p1, p2⟩ := p
        obtain ⟨e, he, hre⟩ := Paired.at hp hx
        have hsz : szD e ≤ 40000 := by
          have h1 := szL_get he
          rw [szD] at hz
          omega
        refine ⟨rfl, yes_of (iteT ?_)⟩
        refine ⟨_, rfl, m', x, e, rfl, hre.same (s0.trans p1), hall e (List.mem_of_getElem? he), hsz, fun H2 s2 => ⟨_, s2 _ _ p2, ?_, ?_⟩⟩
        · rw [List.length_map, List.length_map]
          refine Nat.lt_of_le_of_lt (List.length_take_le' _ _) (Nat.lt_of_le_of_lt h20 (by decide))
        · refine ⟨fun b o ec => ?_, ?_⟩
          · rw [upd_ne (ne_of_none ec hD)]; exact s2 _ _ (p1 b o ec)
          · rw [upd_same, take_snoc he, List.map_append, List.map_append]; rfl
      · obtain ⟨p1, p2⟩ := p
        rw [hlen, List.take_length] at p2
        refine ⟨o1, D, _, _, rfl, rfl, p1 _ _ upd_same, p2, ?_, fun q1 hq1 => ?_⟩
        · show 1 + ((ds.map (shW n')).map V.str).length ≤ sizeLine
          rw [List.length_map, List.length_map]
          exact Nat.le_trans (show 1 + ds.length ≤ 30 by omega) (by decide)
        · have s3 : Same H' (upd H' q1 (.lst ([.str "<"] ++ (ds.map (shW n')).map V.str))) := Same.new (Same.refl _) hq1
          refine ⟨by show 1 ≤ sizeLine; decide, fun o2 ho2 => ?_⟩
          have s4 : Same (upd H' q1 (.lst ([.str "<"] ++ (ds.map (shW n')).map V.str))) (upd (upd H' q1 (.lst ([.str "<"] ++ (ds.map (shW n')).map V.str))) o2 (.lst [.str ">"])) := Same.new (Same.refl _) ho2
          refine ⟨q1, o2, _, _, rfl, rfl, s4 _ _ upd_same, upd_same, ?_, fun q2 hq2 => ?_⟩
          · show ([V.str "<"] ++ (ds.map (shW n')).map V.str).length + 1 ≤ sizeLine
            rw [List.length_append, List.length_map, List.length_map]
            exact Nat.le_trans (show 1 + ds.length + 1 ≤ 30 by omega) (by decide)
          · refine ⟨_, q2, (("<" : Str) :: ds.map (shW n')) ++ [(">" : Str)], rfl, rfl, .inl (SqL.of ?_), fit_sh hall hz, k _ (Same.new ((s0.trans p1).trans (s3.trans s4)) hq2)⟩
            rw [upd_same]
            simp
    · have hleaf : leafW d = true := by rw [← isW_leaf hn]; exact hW
      have esh : shW n d = leafT d := shW_leaf hn
      refine iteB0 (by cases d <;> first | rfl | exact absurd rfl (hn _)) ?_
      refine ⟨_, rfl, _, rfl, ?_⟩
      rw [rep_nonn hR]
      have fin := k H (Same.refl _)
      rw [esh] at fin
      cases d with
      | tuple ds => exact absurd rfl (hn ds)
      | none => exact iteB1 rfl fin
      | int i =>
        cases rep_int hR
        exact iteB0 rfl ⟨_, rfl, .inr ⟨i, rfl, log_small (of_decide_eq_true hleaf), fin⟩⟩
      | str x =>
        cases rep_str hR
        exact iteB0 rfl ⟨_, rfl, .inl ⟨x, rfl, fin⟩⟩
      | bool b => exact absurd (show false = true from hleaf) Bool.false_ne_true
      | list l => exact absurd (show false = true from hleaf) Bool.false_ne_true
      | dict l => exact absurd (show false = true from hleaf) Bool.false_ne_true
theorem ok_shown {f : Addr} {fd : FuncData} (F : Fun K "_law_shown" "_law_shown" sShown f fd) (mG : mg "_law_shown" = some (.ref f)) (bG : Binds K fd ["_law_it"] [])
    (mI : mg "isinstance" = none) (mT : mg "tuple" = none) (mS : mg "str" = none) : ∀ n, FnOk P w K mg pB CX0 (n + 2) f fd ["_law_it"] (spShow n)
  | 0 => step_shown F 0 ok_bot mG bG mI mT mS
  | n + 1 => step_shown F (n + 1) (ok_shown F mG bG mI mT mS n) mG bG mI mT mS
end
end My

set_option Elab.async false
set_option linter.all false
set_option maxRecDepth 100000
set_option maxHeartbeats 4000000
namespace My
open PySem L2
section
variable {P : Program} {w : World} {K : PySem.W.Frag} {mg : Str → Option Value} {pB : Heap}
/-! ### what is drawn -/
/-- behind some drawing: the pen goes on, all else stands -/
structure Dr (H H' : Hp) (d l : Addr) (ms : List Int) (n n' L' b : Int) : Prop where
  kp : Kp d H H'
  pn : Pen H' d l ms n' L'
  lo : n ≤ n'
  hi : n' ≤ n + b
theorem Dr.trans {H H1 H2 : Hp} {d l : Addr} {ms : List Int} {n n1 n2 L1 L2 b c : Int} (x : Dr H H1 d l ms n n1 L1 b) (y : Dr H1 H2 d l ms n1 n2 L2 c) : Dr H H2 d l ms n n2 L2 (b + c) :=
  ⟨x.kp.trans y.kp, y.pn, Int.le_trans x.lo y.lo, by have := x.hi; have := y.hi; omega⟩
theorem Dr.same {H H1 H2 : Hp} {d l : Addr} {ms : List Int} {n n1 L1 b : Int} (x : Dr H H1 d l ms n n1 L1 b) (s : Same H1 H2) : Dr H H2 d l ms n n1 L1 b :=
  ⟨x.kp.trans (Kp.of s), ⟨s _ _ x.pn.dc, s _ _ x.pn.ls, x.pn.n0, x.pn.l0⟩, x.lo, x.hi⟩
theorem Dr.wk {H H1 : Hp} {d l : Addr} {ms : List Int} {n n1 L1 b c : Int} (x : Dr H H1 d l ms n n1 L1 b) (h : b ≤ c) : Dr H H1 d l ms n n1 L1 c := ⟨x.kp, x.pn, x.lo, by have := x.hi; omega⟩
theorem Dr.refl {H : Hp} {d l : Addr} {ms : List Int} {n L : Int} (p : Pen H d l ms n L) : Dr H H d l ms n n L 0 := ⟨Kp.refl _ _, p, Int.le_refl _, by omega⟩
theorem pen_ne (l : Addr) (n L : Int) : pen l n L ≠ [] := by intro z; cases z
theorem Dr.rep {H H1 : Hp} {d l : Addr} {ms : List Int} {n n1 L L1 b : Int} (x : Dr H H1 d l ms n n1 L1 b) (p : Pen H d l ms n L) {k : Nat} {v : V} {t : PyData} (r : Rep H k v t) : Rep H1 k v t := r.keep p.dc (pen_ne _ _ _) x.kp
/-- one draw, read -/
theorem rd_dr {σ : L2.St} {H : Hp} {Q : VK} {i : Nat} {te : TE} {d l : Addr} {ms : List Int} {n L m : Int} (hσ : σ[i]? = some (some (.ref d))) (ht : ∀ Q' : VK, Q' (.int m) H → te σ H Q') (p : Pen H d l ms n L) (hn : n < 2 ^ 40) (h0 : 0 < m) (h1 : m < 1073741824)
    (h : ∀ (r n' L' : Int) (H' : Hp), 0 ≤ r → r < m → Dr H H' d l ms n n' L' 1 → Q (.int r) H') : tCall spDraw [] E0 (tCons (tVar i) (tCons te tNil)) σ H Q :=
  ⟨_, hσ, ht _ ⟨d, l, ms, n, L, m, rfl, p, hn, h0, h1, fun r n' L' H' r0 r1 a b q k => h r n' L' H' r0 r1 ⟨k, q, a, b⟩⟩⟩
def spPick : Sp := fun vs H Q _ => ∃ (d l : Addr) (ms : List Int) (n L : Int) (y : V), vs = [.ref d, y] ∧ Pen H d l ms n L ∧ n < 2 ^ 39 ∧
  ((∃ z : Str, y = .str z ∧ 0 < z.length ∧ z.length ≤ 1000 ∧ ∀ (c : Nat) (n' L' : Int) (H' : Hp), c ∈ z.cps.toList → Dr H H' d l ms n n' L' 1 → Q (.str ⟨#[c]⟩) H') ∨
   ∃ (a : Addr) (xs : List V), y = .ref a ∧ H a = some (.lst xs) ∧ 0 < xs.length ∧ xs.length ≤ 1000 ∧ ∀ (x : V) (n' L' : Int) (H' : Hp), x ∈ xs → Dr H H' d l ms n n' L' 1 → Q x H')
abbrev sPick : Stmt := top 15
theorem scPick : FnScope ["_law_held", "_law_some"] ["_law_held", "_law_some"] (defScope sPick) := ⟨rfl, rfl, rfl, by decide +kernel, rfl, by decide +kernel, by decide +kernel⟩
theorem atI_of {α : Type} {xs : List α} {r : Int} (h0 : 0 ≤ r) (h1 : r < (xs.length : Int)) : ∃ x, x ∈ xs ∧ atI xs r = some x ∧ xs[r.toNat]? = some x := by
  have hl : r.toNat < xs.length := by omega
  have e := atI_nat (List.getElem?_eq_getElem hl)
  rw [Int.toNat_of_nonneg h0] at e
  exact ⟨_, List.getElem_mem hl, e, List.getElem?_eq_getElem hl⟩
theorem ok_pick {f fD : Addr} {fd dD : FuncData} (F : Fun K "_law_pick" "_law_pick" sPick f fd) (GD : FnOk P w K mg pB CX0 1 fD dD ["_law_held", "_law_many"] spDraw) (mD : mg "_law_draw" = some (.ref fD)) (kD : PySem.W.keepIn K (.ref fD) = true) (bD : Binds K dD ["_law_held", "_law_many"] [])
    (mLen : mg "len" = none) : FnOk P w K mg pB CX0 2 f fd ["_law_held", "_law_some"] spPick := by
  refine F.ok scPick (fun vs H Q E h => ?_) (fun cdv A outer s H vs Q E hr h => ?_)
  · obtain ⟨d, l, ms, n, L, y, rfl, _⟩ := h
    rfl
  · obtain ⟨d, l, ms, n, L, y, rfl, p, hn, k⟩ := h
    refine ⟨_, pss_one (ps_ret (pe_ix ix_seq (pv 1) (pe_call GD hr rfl mD kD bD .nil pass0 (pa_cons (pv 0) (pa_cons (pe_callB call_len (by rfl) mLen PySem.boot_len (pa_cons (pv 1) pa_nil)) pa_nil))) (fun _ _ => rfl))), ?_⟩
    rcases k with ⟨z, rfl, z0, z1, k⟩ | ⟨a, xs, rfl, ha, z0, z1, k⟩
    · have ez : z.length = z.cps.toList.length := by simp [Str.length]
      have hz : z.length ≤ sizeLine := Nat.le_trans z1 (by decide)
      refine ⟨_, rfl, rd_dr (m := (z.length : Int)) rfl (fun _ h => ⟨_, rfl, _, z.length, rfl, ⟨hz, rfl⟩, h⟩) p (by omega) (by omega) (by omega) fun r n' L' H' r0 r1 x => ?_⟩
      obtain ⟨c, hcm, hc, _⟩ := atI_of (xs := z.cps.toList) r0 (by omega)
      exact .inr (.inr ⟨z, _, c, rfl, rfl, hz, hc, k c n' L' H' hcm x⟩)
    · refine ⟨_, rfl, rd_dr (m := (xs.length : Int)) rfl (fun _ h => ⟨_, rfl, _, xs.length, rfl, .inl ⟨_, SqL.of ha, rfl⟩, h⟩) p (by omega) (by omega) (by omega) fun r n' L' H' r0 r1 x => ?_⟩
      obtain ⟨y, hy, hc, _⟩ := atI_of (xs := xs) r0 r1
      have ha' := x.kp _ _ ha (ne_of ha p.dc (by intro z; cases z))
      exact .inl ⟨a, xs, _, y, rfl, rfl, SqL.of ha', hc, k y n' L' H' hy x⟩
end
end My

set_option Elab.async false
set_option linter.all false
set_option maxRecDepth 100000
set_option maxHeartbeats 4000000
namespace My
open PySem L2
theorem asg_n {te : TE} {i : Nat} {b : TS} {D : Ends} {σ : L2.St} {H : Hp} (h : te σ H fun x H1 => b D (σ.set i (some x)) H1) : tSeq (tAsg te (gName i)) b D σ H := h
theorem call_of {sp : Sp} {t : TA} {σ : L2.St} {H : Hp} {Q : VK} (h : t σ H fun vs H1 => sp (vs ++ []) H1 Q E0) : tCall sp [] E0 t σ H Q := h
section
variable {P : Program} {w : World} {K : PySem.W.Frag} {mg : Str → Option Value} {pB : Heap}
theorem Dr.upd {H H' : Hp} {d l D : Addr} {ms : List Int} {n n' L L' b : Int} {o : HO} (x : Dr H H' d l ms n n' L' b) (p : Pen H d l ms n L) (hD : H D = none) : Dr H (L2.upd H' D o) d l ms n n' L' b :=
  ⟨fun c u e nc => by rw [upd_ne (ne_of_none e hD)]; exact x.kp c u e nc, ⟨by rw [upd_ne (ne_of_none p.dc hD)]; exact x.pn.dc, by rw [upd_ne (ne_of_none p.ls hD)]; exact x.pn.ls, x.pn.n0, x.pn.l0⟩, x.lo, x.hi⟩
theorem Pen.same {H H' : Hp} {d l : Addr} {ms : List Int} {n L : Int} (p : Pen H d l ms n L) (s : Same H H') : Pen H' d l ms n L := ⟨s _ _ p.dc, s _ _ p.ls, p.n0, p.l0⟩
theorem join0_tl (cs : List Nat) : TL.tl (Txt.join "" (cs.map fun c => (⟨#[c]⟩ : Str))) = cs := by
  rw [TL.join_eq, TL.tl_join, show TL.tl ("" : Str) = [] by decide +kernel]
  have h : ∀ ps : List (List Nat), TL.joinL [] ps = ps.flatten := by
    intro ps
    induction ps with
    | nil => rfl
    | cons p ps ih =>
      cases ps with
      | nil => simp [TL.joinL]
      | cons q r =>
        show p ++ ([] ++ TL.joinL [] (q :: r)) = _
        rw [ih, List.nil_append, List.flatten_cons (l := p)]
  rw [h, List.map_map]
  induction cs with
  | nil => rfl
  | cons c cs ih =>
    rw [List.map_cons, List.flatten_cons, ih]
    rfl
theorem join0_len (cs : List Nat) : (Txt.join "" (cs.map fun c => (⟨#[c]⟩ : Str))).length = cs.length := by
  rw [TL.len_tl, join0_tl]
theorem sum_ones (cs : List Nat) : ((cs.map fun c => (⟨#[c]⟩ : Str)).map (·.length)).sum = cs.length := by
  induction cs with
  | nil => rfl
  | cons c cs ih =>
    rw [List.map_cons, List.map_cons, List.sum_cons, ih, List.length_cons]
    show 1 + cs.length = _
    omega
def wd8 : List Str := ["say", "kept", "none", "a", "z", "abcdefgh", "zzzzzzzz", "post"]
theorem wd8_wd : ∀ x ∈ wd8, isWd x = true := by decide +kernel
theorem wd8_len : ∀ x ∈ wd8, x.length ≤ 8 := by decide +kernel
def spWord : Sp := fun vs H Q _ => ∃ (d l : Addr) (ms : List Int) (n L : Int), vs = [.ref d] ∧ Pen H d l ms n L ∧ n < 2 ^ 38 ∧ ∀ (x : Str) (n' L' : Int) (H' : Hp), x.length ≤ 8 → isWd x = true → Dr H H' d l ms n n' L' 20 → Q (.str x) H'
abbrev sWord : Stmt := top 16
theorem scWord : FnScope ["_law_held", "_law_some", "_law_letters", "_law_drawn", "_law_k"] ["_law_held"] (defScope sWord) := ⟨rfl, rfl, rfl, by decide +kernel, rfl, by decide +kernel, by decide +kernel⟩
theorem ok_word {f fD fP : Addr} {fd dD dP : FuncData} (F : Fun K "_law_word" "_law_word" sWord f fd) (GD : FnOk P w K mg pB CX0 1 fD dD ["_law_held", "_law_many"] spDraw) (mD : mg "_law_draw" = some (.ref fD)) (kD : PySem.W.keepIn K (.ref fD) = true) (bD : Binds K dD ["_law_held", "_law_many"] [])
    (GP : FnOk P w K mg pB CX0 2 fP dP ["_law_held", "_law_some"] spPick) (mP : mg "_law_pick" = some (.ref fP)) (kP : PySem.W.keepIn K (.ref fP) = true) (bP : Binds K dP ["_law_held", "_law_some"] []) (mR : mg "range" = none) :
    FnOk P w K mg pB CX0 3 f fd ["_law_held"] spWord := by
  refine F.ok scWord (fun vs H Q E h => ?_) (fun cdv A outer s H vs Q E hr h => ?_)
  · obtain ⟨d, l, ms, n, L, rfl, _⟩ := h
    rfl
  · obtain ⟨d, l, ms, n, L, rfl, p, hn, k⟩ := h
    have nd := scWord.nd
    have hr1 : Room 1 _ := hr.mono (by decide)
    refine ⟨_, pss_cons (ps_set (i := 1) nd rfl (Or.inl rfl) (pe_lst (pa_cons pe_str (pa_cons pe_str (pa_cons pe_str (pa_cons pe_str (pa_cons pe_str (pa_cons pe_str (pa_cons pe_str (pa_cons pe_str pa_nil))))))))))
      (pss_cons (ps_set (i := 2) nd rfl (Or.inr rfl) pe_str)
      (pss_cons (ps_set (i := 3) nd rfl (Or.inl rfl) (pe_join pe_str
        (pe_lc (own := [("_law_k", 4)]) (g := gName 4) (tt := tYes) (te := tCall spPick [] E0 (tCons (tVar 0) (tCons (tVar 2) tNil))) rfl nd
          (pi_range1 rfl mR (pa_cons (pe_op op_add pe_int (pe_call GD hr1 rfl mD kD bD .nil pass0 (pa_cons (pv 0) (pa_cons pe_int pa_nil)))) pa_nil))
          (blkOk_by (N := ["_law_held", "_law_some", "_law_letters", "_law_drawn", "_law_k"]) (sc := defScope sWord) (by decide +kernel)) (fun _ _ _ _ _ => pg_name (i := 4) nd rfl (Or.inl rfl) (Or.inr rfl)) (fun _ _ _ _ _ => pts_nil)
          (fun _ _ _ _ _ => pe_call GP hr rfl mP kP bP .nil pass0 (pa_cons (pv 0) (pa_cons (pv 2) pa_nil))))))
      (pss_one (ps_ret (pe_ix ix_list (pe_lst (pa_cons (pv 3) (pa_cons (pe_call GP hr rfl mP kP bP .nil pass0 (pa_cons (pv 0) (pa_cons (pv 1) pa_nil))) pa_nil)))
        (pe_call GD hr1 rfl mD kD bD .nil pass0 (pa_cons (pv 0) (pa_cons pe_int pa_nil))) (fun _ _ => rfl)))))), ?_⟩
    refine asg_n (lst_of ⟨by show 8 ≤ sizeLine; decide, fun ls hls => ?_⟩)
    have s1 : Same H (upd H ls (.lst (wd8.map V.str))) := Same.new (Same.refl _) hls
    have c1 : (upd H ls (.lst (wd8.map V.str))) ls = some (.lst (wd8.map V.str)) := upd_same
    have p1 := p.same s1
    change tSeq _ _ _ _ (upd H ls (.lst (wd8.map V.str)))
    generalize upd H ls (.lst (wd8.map V.str)) = H1 at s1 c1 p1 ⊢
    refine asg_n (te := tC _) (asg_n ?_)
    refine ⟨⟨_, rfl⟩, rd_dr (m := 8) rfl (fun _ h => h) p1 (by omega) (by decide) (by decide) fun r n1 L1 H2 r0 r1 x1 => ⟨_, _, rfl, rfl, _, rfl, by omega, by omega, fun D hD => ?_⟩⟩
    refine lc_range (lo := 0) (n := (1 + r).toNat) (fun i H' => ∃ (n' L' : Int) (cs : List Nat), Dr H2 H' d l ms n1 n' L' i ∧ (cs.length = i ∧ ∀ c ∈ cs, c ∈ letters) ∧ H' D = some (.lst ((cs.map fun c => (⟨#[c]⟩ : Str)).map V.str))) ⟨n1, L1, [], (Dr.refl x1.pn).same (Same.new (Same.refl _) hD), ⟨rfl, fun c h => nomatch h⟩, upd_same⟩ (fun i H' hi p => ?_) (fun H' p => ?_)
    · obtain ⟨n', L', cs, x, ⟨hc, hcl⟩, hD'⟩ := p
      have := x1.hi
      have := x.hi
      refine ⟨rfl, yes_of (iteT (call_of ⟨_, rfl, _, rfl, d, l, ms, n', L', _, rfl, x.pn, by omega, .inl ⟨_, rfl, by decide +kernel, by decide +kernel, fun c n2 L2 H3 hcm y => ?_⟩⟩))⟩
      have hD3 := y.kp _ _ hD' (ne_of hD' x.pn.dc (by intro z; cases z))
      refine ⟨_, hD3, ?_, n2, L2, cs ++ [c], ?_, ⟨by rw [List.length_append, hc]; rfl, fun q hq => (List.mem_append.mp hq).elim (hcl q) fun z => by rw [List.mem_singleton.mp z]; exact hcm⟩, ?_⟩
      · rw [List.length_map, List.length_map]
        exact Nat.lt_of_le_of_lt (show cs.length ≤ 10 by omega) (by decide)
      · exact ((x.trans y).upd x1.pn hD).wk (by omega)
      · rw [upd_same]; simp
    · obtain ⟨n', L', cs, x, ⟨hc, hcl⟩, hD'⟩ := p
      have := x1.hi
      have := x.hi
      refine ⟨_, D, _, rfl, rfl, .inl (SqL.of hD'), ?_, ?_⟩
      · rw [sum_ones, List.length_map, show Str.length "" = 0 by decide +kernel]; omega
      · have hlen := join0_len cs
        have hwd : isWd (Txt.join (Str.ofString "") (cs.map fun c => (⟨#[c]⟩ : Str))) = true := by
          unfold isWd
          rw [Bool.and_eq_true]
          refine ⟨decide_eq_true ⟨by rw [hlen]; omega, by rw [hlen]; omega⟩, List.all_eq_true.mpr fun c hc' => decide_eq_true (hcl c ?_)⟩
          have e := join0_tl cs
          rw [← e]
          exact hc'
        generalize Txt.join (Str.ofString "") (cs.map fun c => (⟨#[c]⟩ : Str)) = wdr at hlen hwd ⊢
        have xx := x1.trans x
        have c2 : H' ls = some (.lst (wd8.map V.str)) := xx.kp _ _ c1 (ne_of c1 p1.dc (by intro z; cases z))
        refine ⟨_, rfl, call_of ⟨_, rfl, _, rfl, d, l, ms, n', L', _, rfl, x.pn, by omega, .inr ⟨ls, _, rfl, c2, by decide, by decide, fun y n3 L3 H4 hy x4 => ?_⟩⟩⟩
        obtain ⟨yw, hyw, rfl⟩ := List.mem_map.mp hy
        refine ⟨by show 2 ≤ sizeLine; decide, fun q hq => ?_⟩
        have s5 : Same H4 (upd H4 q (.lst [.str wdr, .str yw])) := Same.new (Same.refl _) hq
        have := x4.hi
        refine rd_dr (m := 2) rfl (fun _ h => h) (x4.pn.same s5) (by omega) (by decide) (by decide) fun r6 n6 L6 H6 r60 r61 x6 => ?_
        have cq : H6 q = some (.lst [.str wdr, .str yw]) := x6.kp _ _ upd_same (ne_of upd_same (x4.pn.same s5).dc (by intro z; cases z))
        have tot : Dr H H6 d l ms n n6 L6 20 := ((((Dr.refl p).same s1).trans xx).trans ((x4.same s5).trans x6)).wk (by omega)
        obtain ⟨v, hv, hat, _⟩ := atI_of (xs := [V.str wdr, V.str yw]) r60 r61
        refine ⟨q, _, _, v, rfl, rfl, SqL.of cq, hat, ?_⟩
        rcases List.mem_cons.mp hv with rfl | hv
        · exact k wdr n6 L6 H6 (by omega) hwd tot
        · rw [List.mem_singleton.mp hv]
          exact k yw n6 L6 H6 (wd8_len yw hyw) (wd8_wd yw hyw) tot
end
end My

set_option Elab.async false
set_option linter.all false
set_option maxRecDepth 100000
set_option maxHeartbeats 4000000
namespace My
open PySem L2
theorem nxt_of {a b : TS} {D : Ends} {r : VK} {k c : L2.St → Hp → Prop} {σ : L2.St} {H : Hp} (h : tSeq a b D σ H) : tNext { nx := tSeq a b D, rt := r, bk := k, ct := c } σ H := h
section
variable {P : Program} {w : World} {K : PySem.W.Frag} {mg : Str → Option Value} {pB : Heap}
theorem base_mono2 {H H' : Hp} {T T' : V → List PyData → Prop} {v : V} {d : PyData} (hl : ∀ a xs, H a = some (.lst xs) → ∃ xs', H' a = some (.lst xs')) (hd : ∀ a, H a = some (.dK []) → H' a = some (.dK [])) (ht : ∀ ds, T v ds → T' v ds)
    (h : base H T v d) : base H' T' v d := by
  cases d with
  | none => exact h
  | bool b => exact h
  | int i => exact h
  | str x => exact h
  | list ds =>
    obtain ⟨a, xs, e, q⟩ := h
    obtain ⟨xs', q'⟩ := hl a xs q
    exact ⟨a, xs', e, q'⟩
  | dict kvs =>
    obtain ⟨a, e, q⟩ := h
    exact ⟨a, e, hd a q⟩
  | tuple ds => exact ht ds h
/-- a list may grow -/
theorem Rep.updL {H : Hp} {D : Addr} {ys zs : List V} (hD : H D = some (.lst ys)) : ∀ {n : Nat} {v : V} {x : PyData}, Rep H n v x → Rep (L2.upd H D (.lst zs)) n v x := by
  have kl : ∀ a xs, H a = some (.lst xs) → ∃ xs', (L2.upd H D (.lst zs)) a = some (.lst xs') := fun a xs e => by
    by_cases h : a = D
    · exact ⟨zs, by rw [h, upd_same]⟩
    · exact ⟨xs, by rw [upd_ne h]; exact e⟩
  have kd : ∀ a, H a = some (.dK []) → (L2.upd H D (.lst zs)) a = some (.dK []) := fun a e => by
    rw [upd_ne (ne_of e hD (by intro z; cases z))]; exact e
  intro n
  induction n with
  | zero => exact fun h => base_mono2 kl kd (fun _ z => z) h
  | succ n ih => exact fun h => base_mono2 kl kd (fun ds ⟨a, xs, e, q, p⟩ => ⟨a, xs, e, by rw [upd_ne (ne_of q hD (by intro z; cases z))]; exact q, Paired.mapP p fun _ _ z => ih z⟩) h
def bW : Nat → Int
  | 0 => 30
  | k + 1 => 30 + 20 * bW k
theorem bW_pos : ∀ k, 30 ≤ bW k
  | 0 => by decide
  | k + 1 => by have := bW_pos k; rw [bW]; omega
def mny (k : Nat) : Nat := if k = 1 then 20 else 3
def wS : Nat → Nat
  | 0 => 9
  | k + 1 => 9 + mny (k + 1) * wS k
theorem wS_9 : ∀ k, 9 ≤ wS k
  | 0 => by decide
  | k + 1 => by rw [wS]; omega
def spWor (k : Nat) : Sp := fun vs H Q _ => ∃ (d l : Addr) (ms : List Int) (n L : Int), vs = [.ref d, .int (k : Int)] ∧ Pen H d l ms n L ∧ n + bW k ≤ 2 ^ 37 ∧
  ∀ (v : V) (x : PyData) (n' L' : Int) (H' : Hp), Rep H' k v x → szD x ≤ wS k → isW k x = true → Dr H H' d l ms n n' L' (bW k) → Q v H'
def spPrevW : Nat → Sp
  | 0 => spBot
  | k + 1 => spWor k
theorem rep_i {H : Hp} {k : Nat} (i : Int) : Rep H k (.int i) (.int i) := by cases k <;> rfl
theorem rep_s {H : Hp} {k : Nat} (x : Str) : Rep H k (.str x) (.str x) := by cases k <;> rfl
theorem rep_n {H : Hp} {k : Nat} : Rep H k .non .none := by cases k <;> rfl
theorem rep_t {H : Hp} {k : Nat} {a : Addr} {xs : List V} {ds : List PyData} (h : H a = some (.tup xs)) (p : Paired (Rep H k) xs ds) : Rep H (k + 1) (.ref a) (.tuple ds) := ⟨a, xs, rfl, h, p⟩
abbrev sWor : Stmt := top 17
theorem scWor : FnScope ["_law_held", "_law_within", "_law_lot", "_law_many", "_law_k"] ["_law_held", "_law_within"] (defScope sWor) := ⟨rfl, rfl, rfl, by decide +kernel, rfl, by decide +kernel, by decide +kernel⟩
theorem step_wor {f fD fV : Addr} {fd dD dV : FuncData} (F : Fun K "_law_worth" "_law_worth" sWor f fd) (k : Nat) (G : FnOk P w K mg pB CX0 (k + 3) f fd ["_law_held", "_law_within"] (spPrevW k)) (mG : mg "_law_worth" = some (.ref f)) (bG : Binds K fd ["_law_held", "_law_within"] [])
    (GD : FnOk P w K mg pB CX0 1 fD dD ["_law_held", "_law_many"] spDraw) (mD : mg "_law_draw" = some (.ref fD)) (kD : PySem.W.keepIn K (.ref fD) = true) (bD : Binds K dD ["_law_held", "_law_many"] [])
    (GV : FnOk P w K mg pB CX0 3 fV dV ["_law_held"] spWord) (mV : mg "_law_word" = some (.ref fV)) (kV : PySem.W.keepIn K (.ref fV) = true) (bV : Binds K dV ["_law_held"] [])
    (mInt : mg "int" = none) (mT : mg "tuple" = none) (mR : mg "range" = none) : FnOk P w K mg pB CX0 (k + 4) f fd ["_law_held", "_law_within"] (spWor k) := by
  refine F.ok scWor (fun vs H Q E h => ?_) (fun cdv A outer s H vs Q E hr h => ?_)
  · obtain ⟨d, l, ms, n, L, rfl, _⟩ := h
    rfl
  · obtain ⟨d, l, ms, n, L, rfl, p, hn, kont⟩ := h
    have nd := scWor.nd
    have hr1 : Room 1 _ := hr.mono (by omega)
    have hr3 : Room 3 _ := hr.mono (by omega)
    have hb := bW_pos k
    refine ⟨_, pss_cons (ps_set (i := 2) nd rfl (Or.inl rfl) (pe_call GD hr1 rfl mD kD bD .nil pass0 (pa_cons (pv 0) (pa_cons (pe_op op_add pe_int (pe_callTy call_int1 (by rfl) mInt (by decide +kernel) (pa_cons (pe_cmpR op_gt (pv 1) pe_int (nomark _)) pa_nil))) pa_nil))))
      (pss_cons (ps_if (pt_cmpR op_lt (pv 2) pe_int (nomark _)) (pss_one (ps_ret (pe_ix ix_list (pe_lst (pa_cons pe_non (pa_cons (pe_call GV hr3 rfl mV kV bV .nil pass0 (pa_cons (pv 0) pa_nil)) pa_nil))) (pv 2) (fun _ _ => rfl)))) pss_nil)
      (pss_cons (ps_if (pt_cmpR op_eq (pv 2) pe_int (nomark _)) (pss_one (ps_ret (pe_op op_sub (pe_call GD hr1 rfl mD kD bD .nil pass0 (pa_cons (pv 0) (pa_cons pe_int pa_nil))) pe_int))) pss_nil)
      (pss_cons (ps_if (pt_cmpR op_eq (pv 2) pe_int (nomark _)) (pss_one (ps_ret (pe_ix ix_list (pe_lst (pa_cons pe_int (pa_cons (pe_un un_neg pe_int) (pa_cons pe_int (pa_cons (pe_un un_neg pe_int) pa_nil)))))
          (pe_call GD hr1 rfl mD kD bD .nil pass0 (pa_cons (pv 0) (pa_cons pe_int pa_nil))) (fun _ _ => rfl)))) pss_nil)
      (pss_cons (ps_set (i := 3) nd rfl (Or.inl rfl) (pe_ix ix_list (pe_lst (pa_cons (pe_call GD hr1 rfl mD kD bD .nil pass0 (pa_cons (pv 0) (pa_cons pe_int pa_nil))) (pa_cons pe_int pa_nil)))
          (pe_callTy call_int1 (by rfl) mInt (by decide +kernel) (pa_cons (pe_and (pe_cmpR op_eq (pv 1) pe_int (nomark _)) (pe_one (pe_cmpR op_eq (pe_call GD hr1 rfl mD kD bD .nil pass0 (pa_cons (pv 0) (pa_cons pe_int pa_nil))) pe_int (nomark _)))) pa_nil)) (fun _ _ => rfl)))
      (pss_one (ps_ret (pe_tupleOf (by rfl) mT
        (pe_lc (own := [("_law_k", 4)]) (g := gName 4) (tt := tYes) (te := tCall (spPrevW k) [] E0 (tCons (tVar 0) (tCons (tOp (rI0 fun i j => .int (i - j)) (tVar 1) (tC (.int 1))) tNil))) rfl nd
          (pi_range1 rfl mR (pa_cons (pv 3) pa_nil))
          (blkOk_by (N := ["_law_held", "_law_within", "_law_lot", "_law_many", "_law_k"]) (sc := defScope sWor) (by decide +kernel)) (fun _ _ _ _ _ => pg_name (i := 4) nd rfl (Or.inl rfl) (Or.inr rfl)) (fun _ _ _ _ _ => pts_nil)
          (fun _ _ _ _ _ => pe_call G hr rfl mG F.kp bG .nil pass0 (pa_cons (pv 0) (pa_cons (pe_op op_sub (pv 1) pe_int) pa_nil))))))))))), ?_⟩
    refine asg_n (rd_dr rfl (fun _ h => ⟨_, rfl, _, _, rfl, rfl, .inr ⟨_, rfl, _, _, rfl, rfl, h⟩⟩) p (by omega) (by split <;> omega) (by split <;> omega) fun lot n1 L1 H1 r0 r1 x1 => ?_)
    have h1 := x1.hi
    have leafK : ∀ (v : V) (t : PyData) (n' L' : Int) (H' : Hp), Rep H' k v t → szD t ≤ 9 → isW k t = true → Dr H1 H' d l ms n1 n' L' 29 → Q v H' := fun v t n' L' H' hr hs hw x => kont v t n' L' H' hr (Nat.le_trans hs (wS_9 k)) hw ((x1.trans x).wk (by omega))
    refine ⟨_, rfl, _, _, rfl, rfl, _, rfl, ite2 (fun c => ?_) (fun c => ?_)⟩
    · have c := of_decide_eq_true c
      refine ⟨_, rfl, d, l, ms, n1, L1, rfl, x1.pn, by omega, fun xw n2 L2 H2 hx hxw x2 => ⟨by show 2 ≤ sizeLine; decide, fun q hq => ?_⟩⟩
      have s3 : Same H2 (upd H2 q (.lst [.non, .str xw])) := Same.new (Same.refl _) hq
      obtain ⟨v, hv, hat, _⟩ := atI_of (xs := [V.non, V.str xw]) r0 c
      refine ⟨_, rfl, q, _, _, v, rfl, rfl, SqL.of upd_same, hat, ?_⟩
      rcases List.mem_cons.mp hv with rfl | hv
      · exact leafK .non .none n2 L2 _ rep_n (by decide) (by rw [isW_leaf (by intro ds z; cases z)]; rfl) ((x2.same s3).wk (by omega))
      · rw [List.mem_singleton.mp hv]
        exact leafK (.str xw) (.str xw) n2 L2 _ (rep_s xw) (by rw [szD]; omega) (by rw [isW_leaf (by intro ds z; cases z)]; exact hxw) ((x2.same s3).wk (by omega))
    refine ⟨_, rfl, rfl, _, rfl, ite2 (fun c2 => ?_) (fun c2 => ?_)⟩
    · refine rd_dr (m := 2001) rfl (fun _ h => h) x1.pn (by omega) (by decide) (by decide) fun r n2 L2 H2 q0 q1 x2 => ⟨_, _, rfl, rfl, ?_⟩
      exact leafK _ (.int _) n2 L2 H2 (rep_i _) (show 1 ≤ 9 by decide) (by rw [isW_leaf (by intro ds z; cases z)]; exact decide_eq_true ⟨by omega, by omega⟩) (x2.wk (by decide))
    refine ⟨_, rfl, rfl, _, rfl, ite2 (fun c3 => ?_) (fun c3 => ?_)⟩
    · refine ⟨_, rfl, _, rfl, by show 4 ≤ sizeLine; decide, fun q hq => ?_⟩
      have s2 : Same H1 (upd H1 q (.lst [.int 1000000000, .int (-1000000000), .int 0, .int (-1)])) := Same.new (Same.refl _) hq
      refine rd_dr (m := 4) rfl (fun _ h => h) (x1.pn.same s2) (by omega) (by decide) (by decide) fun r n2 L2 H2 q0 q1 x2 => ?_
      have cq : H2 q = some (.lst [.int 1000000000, .int (-1000000000), .int 0, .int (-1)]) := x2.kp _ _ upd_same (ne_of upd_same (x1.pn.same s2).dc (by intro z; cases z))
      obtain ⟨v, hv, hat, _⟩ := atI_of (xs := [V.int 1000000000, V.int (-1000000000), V.int 0, V.int (-1)]) q0 q1
      refine ⟨q, _, _, v, rfl, rfl, SqL.of cq, hat, ?_⟩
      have hx : ∃ i : Int, v = .int i ∧ -1000000000 ≤ i ∧ i ≤ 1000000000 := by
        simp only [List.mem_cons, List.mem_nil_iff, or_false] at hv
        rcases hv with rfl | rfl | rfl | rfl <;> exact ⟨_, rfl, by decide, by decide⟩
      obtain ⟨i, rfl, hi1, hi2⟩ := hx
      exact leafK _ (.int i) n2 L2 H2 (rep_i i) (show 1 ≤ 9 by decide) (by rw [isW_leaf (by intro ds z; cases z)]; exact decide_eq_true ⟨hi1, hi2⟩) ((((Dr.refl x1.pn).same s2).trans x2).wk (by decide))
    have hk : 0 < k := by
      rcases Nat.eq_zero_or_pos k with z | z
      · subst z
        exfalso
        have c' : ¬ lot < 2 := fun z => c (decide_eq_true z)
        have c2 : ¬ lot = 2 := fun z => c2 (decide_eq_true (by rw [z]))
        have c3 : ¬ lot = 3 := fun z => c3 (decide_eq_true (by rw [z]))
        rw [if_neg (by simp)] at r1
        omega
      · exact z
    obtain ⟨j, rfl⟩ : ∃ j, k = j + 1 := ⟨k - 1, by omega⟩
    have hbj : bW (j + 1) = 30 + 20 * bW j := rfl
    have hbj0 := bW_pos j
    refine nxt_of (asg_n ?_)
    refine rd_dr (m := 4) rfl (fun _ h => h) x1.pn (by omega) (by decide) (by decide) fun r4 n2 L2 H2 q0 q1 x2 => ⟨by show 2 ≤ sizeLine; decide, fun q hq => ?_⟩
    have s3 : Same H2 (upd H2 q (.lst [.int r4, .int 20])) := Same.new (Same.refl _) hq
    have h2 := x2.hi
    have rest : ∀ (b : Bool) (n3 L3 : Int) (H3 : Hp), (b = true → j = 0) → Dr (upd H2 q (.lst [.int r4, .int 20])) H3 d l ms n2 n3 L3 1 →
        ∃ many : Nat, many ≤ mny (j + 1) ∧ atI [V.int r4, V.int 20] (if b = true then 1 else 0) = some (V.int (many : Int)) ∧ H3 q = some (.lst [.int r4, .int 20]) := by
      intro b n3 L3 H3 hb x3
      have cq : H3 q = some (.lst [.int r4, .int 20]) := x3.kp _ _ upd_same (ne_of upd_same (x2.pn.same s3).dc (by intro z; cases z))
      cases b with
      | true =>
        refine ⟨20, ?_, rfl, cq⟩
        rw [hb rfl]; decide
      | false =>
        refine ⟨r4.toNat, ?_, ?_, cq⟩
        · unfold mny
          split <;> omega
        · rw [Int.toNat_of_nonneg q0]; rfl
    have fin : ∀ (many : Nat) (n3 L3 : Int) (H3 : Hp), many ≤ mny (j + 1) → Dr (upd H2 q (.lst [.int r4, .int 20])) H3 d l ms n2 n3 L3 1 →
        tThen (tLc (iRng1 (tCons (tVar 3) tNil)) (gName 4) tYes (tCall (spPrevW (j + 1)) [] E0 (tCons (tVar 0) (tCons (tOp (rI0 fun i j => V.int (i - j)) (tVar 1) (tC (V.int 1))) tNil))) [4]) (kTup K)
          [some (.ref d), some (.int ((j + 1 : Nat) : Int)), some (.int lot), some (.int (many : Int)), none] H3 Q := by
      intro many n3 L3 H3 hm x3
      have hm20 : many ≤ 20 := Nat.le_trans hm (by unfold mny; split <;> decide)
      have h3 := x3.hi
      refine ⟨_, rfl, _, rfl, by omega, by omega, fun D hD => ?_⟩
      refine lc_range (lo := 0) (n := (many : Int).toNat) (fun i H' => ∃ (n' L' : Int) (ys : List V) (ts : List PyData), Dr H3 H' d l ms n3 n' L' ((i : Int) * bW j) ∧ ys.length = i ∧ H' D = some (.lst ys) ∧ Paired (Rep H' j) ys ts ∧ szL ts ≤ i * wS j ∧ ∀ t ∈ ts, isW j t = true)
        ⟨n3, L3, [], [], ((Dr.refl x3.pn).same (Same.new (Same.refl _) hD)).wk (by simp), rfl, upd_same, .nil, by simp [szL], fun t h => nomatch h⟩ (fun i H' hi p => ?_) (fun H' p => ?_)
      · obtain ⟨n', L', ys, ts, x, hl, hD', hp, hs, hws⟩ := p
        have h4 := x.hi
        have hi20 : i < 20 := by omega
        have hmul : (i : Int) * bW j ≤ 19 * bW j := Int.mul_le_mul_of_nonneg_right (by omega) (by omega)
        refine ⟨rfl, yes_of (iteT (call_of ⟨_, rfl, _, rfl, _, _, rfl, rfl, d, l, ms, n', L', ?_, x.pn, by omega, fun v t n5 L5 H5 hr5 hs5 hw5 x5 => ?_⟩))⟩
        · show [V.ref d, V.int (((j + 1 : Nat) : Int) - 1)] = [V.ref d, V.int (j : Int)]
          rw [show (((j + 1 : Nat) : Int) - 1) = (j : Int) by omega]
        · have hD5 := x5.kp _ _ hD' (ne_of hD' x.pn.dc (by intro z; cases z))
          refine ⟨ys, hD5, Nat.lt_of_le_of_lt (show ys.length ≤ 20 by omega) (by decide), n5, L5, ys ++ [v], ts ++ [t], ?_, by rw [List.length_append, hl]; rfl, upd_same, ?_, ?_, fun q hq => (List.mem_append.mp hq).elim (hws q) fun z => by rw [List.mem_singleton.mp z]; exact hw5⟩
          · refine ((x.trans x5).upd x3.pn hD).wk ?_
            rw [show (((i + 1 : Nat) : Int)) = (i : Int) + 1 by omega, Int.add_mul, Int.one_mul]
            exact Int.le_refl _
          · exact Paired.snoc (Paired.mapP hp fun _ _ z => (x5.rep x.pn z).updL hD5) (hr5.updL hD5)
          · rw [szL_app, szL, szL, Nat.succ_mul]; omega
      · obtain ⟨n', L', ys, ts, x, hl, hD', hp, hs, hws⟩ := p
        have h4 := x.hi
        have hmm : ((many : Int).toNat : Int) = (many : Int) := by omega
        refine .inl ⟨D, ys, rfl, SqL.of hD', fun tq htq => ?_⟩
        have s7 : Same H' (upd H' tq (.tup ys)) := Same.new (Same.refl _) htq
        refine kont (.ref tq) (.tuple ts) n' L' _ (rep_t upd_same (Paired.mapP hp fun _ _ z => z.same s7)) ?_ (by rw [isW, Bool.and_eq_true]; exact ⟨decide_eq_true (by have := Paired.length hp; omega), List.all_eq_true.mpr hws⟩) ?_
        · rw [szD, wS]
          have : (many : Int).toNat * wS j ≤ mny (j + 1) * wS j := Nat.mul_le_mul_right _ (by omega)
          omega
        · have hmul : ((many : Int).toNat : Int) * bW j ≤ 20 * bW j := Int.mul_le_mul_of_nonneg_right (by omega) (by omega)
          exact ((x1.trans ((x2.same s3).trans (x3.trans x))).same s7).wk (by omega)
    refine ⟨_, rfl, rfl, _, rfl, ite2 (fun c4 => ?_) (fun c4 => ?_)⟩
    · have hj : j = 0 := by
        have := V.int.inj (of_decide_eq_true c4)
        omega
      refine rd_dr (m := 9) rfl (fun _ h => h) (x2.pn.same s3) (by omega) (by decide) (by decide) fun r9 n3 L3 H3 u0 u1 x3 => ⟨rfl, ?_⟩
      obtain ⟨many, hm, hat, cq⟩ := rest (decide (V.int r9 = V.int 0)) n3 L3 H3 (fun _ => hj) x3
      exact .inr ⟨_, rfl, q, _, _, _, rfl, rfl, SqL.of cq, hat, fin many n3 L3 H3 hm x3⟩
    · have x3 : Dr (upd H2 q (.lst [.int r4, .int 20])) (upd H2 q (.lst [.int r4, .int 20])) d l ms n2 n2 L2 1 := (Dr.refl (x2.pn.same s3)).wk (by decide)
      obtain ⟨many, hm, hat, cq⟩ := rest false n2 L2 _ (fun z => by cases z) x3
      exact .inr ⟨_, rfl, q, _, _, _, rfl, rfl, SqL.of cq, hat, fin many n2 L2 _ hm x3⟩
theorem ok_wor {f fD fV : Addr} {fd dD dV : FuncData} (F : Fun K "_law_worth" "_law_worth" sWor f fd) (mG : mg "_law_worth" = some (.ref f)) (bG : Binds K fd ["_law_held", "_law_within"] [])
    (GD : FnOk P w K mg pB CX0 1 fD dD ["_law_held", "_law_many"] spDraw) (mD : mg "_law_draw" = some (.ref fD)) (kD : PySem.W.keepIn K (.ref fD) = true) (bD : Binds K dD ["_law_held", "_law_many"] [])
    (GV : FnOk P w K mg pB CX0 3 fV dV ["_law_held"] spWord) (mV : mg "_law_word" = some (.ref fV)) (kV : PySem.W.keepIn K (.ref fV) = true) (bV : Binds K dV ["_law_held"] [])
    (mInt : mg "int" = none) (mT : mg "tuple" = none) (mR : mg "range" = none) : ∀ k, FnOk P w K mg pB CX0 (k + 4) f fd ["_law_held", "_law_within"] (spWor k)
  | 0 => step_wor F 0 ok_bot mG bG GD mD kD bD GV mV kV bV mInt mT mR
  | k + 1 => step_wor F (k + 1) (ok_wor F mG bG GD mD kD bD GV mV kV bV mInt mT mR k) mG bG GD mD kD bD GV mV kV bV mInt mT mR
end
end My

set_option Elab.async false
set_option linter.all false
set_option maxRecDepth 100000
set_option maxHeartbeats 4000000
namespace My
open PySem L2
section
variable {P : Program} {w : World} {K : PySem.W.Frag} {mg : Str → Option Value} {pB : Heap} {σ : L2.St} {H : Hp} {Q : VK} {x y : V}
theorem cons_c {v : V} {tr : TA} {σ : L2.St} {H : Hp} {Q : List V → Hp → Prop} (h : tr σ H fun xs H2 => Q (v :: xs) H2) : tCons (tC v) tr σ H Q := h
theorem rdT0 (h : ∀ p H', Same H H' → H' p = some (.tup []) → Q (.ref p) H') : tTup tNil σ H Q := ⟨by show 0 ≤ sizeLine; decide, fun t ht => h t _ (Same.new (Same.refl _) ht) upd_same⟩
theorem rdT1 (h : ∀ p H', Same H H' → H' p = some (.tup [x]) → Q (.ref p) H') : tTup (tCons (tC x) tNil) σ H Q := ⟨by show 1 ≤ sizeLine; decide, fun t ht => h t _ (Same.new (Same.refl _) ht) upd_same⟩
theorem rdT2 (h : ∀ p H', Same H H' → H' p = some (.tup [x, y]) → Q (.ref p) H') : tTup (tCons (tC x) (tCons (tC y) tNil)) σ H Q := ⟨by show 2 ≤ sizeLine; decide, fun t ht => h t _ (Same.new (Same.refl _) ht) upd_same⟩
theorem rdTT (h : ∀ q p H', Same H H' → H' q = some (.tup [x]) → H' p = some (.tup [.ref q]) → Q (.ref p) H') : tTup (tCons (tTup (tCons (tC x) tNil)) tNil) σ H Q :=
  rdT1 (σ := σ) (Q := fun z H1 => ([z] : List V).length ≤ sizeLine ∧ ∀ p, H1 p = none → Q (.ref p) (upd H1 p (.tup [z]))) fun q H1 s1 e1 => ⟨by show 1 ≤ sizeLine; decide, fun p hp => h q p _ (Same.new s1 hp) ((Same.new (Same.refl _) hp) _ _ e1) upd_same⟩
theorem rdL0 (h : ∀ p H', Same H H' → H' p = some (.lst []) → Q (.ref p) H') : tLst tNil σ H Q := ⟨by show 0 ≤ sizeLine; decide, fun t ht => h t _ (Same.new (Same.refl _) ht) upd_same⟩
theorem rdL2 (h : ∀ p H', Same H H' → H' p = some (.lst [x, y]) → Q (.ref p) H') : tLst (tCons (tC x) (tCons (tC y) tNil)) σ H Q := ⟨by show 2 ≤ sizeLine; decide, fun t ht => h t _ (Same.new (Same.refl _) ht) upd_same⟩
theorem rdLT (h : ∀ q p H', Same H H' → H' p = some (.lst [.ref q]) → Q (.ref p) H') : tLst (tCons (tTup (tCons (tC x) tNil)) tNil) σ H Q :=
  rdT1 (σ := σ) (Q := fun z H1 => ([z] : List V).length ≤ sizeLine ∧ ∀ p, H1 p = none → Q (.ref p) (upd H1 p (.lst [z]))) fun q H1 s1 e1 => ⟨by show 1 ≤ sizeLine; decide, fun p hp => h q p _ (Same.new s1 hp) upd_same⟩
theorem rdD (h : ∀ p H', Same H H' → H' p = some (.dK []) → Q (.ref p) H') : tDNewK σ H Q := fun t ht => h t _ (Same.new (Same.refl _) ht) upd_same
def oddV (p0 p1 p2 p3 p4 p5 p6 p7 : Addr) : List V :=
  [.non, .bl true, .bl false, .int (-1), .int 6, .int 1001, .int 1000000001, .int (-1000000001), .int (10 ^ (30 : Int).toNat), .str "", .str "A", .str "abcdefghi", .str "a b", .str "-",
   .str "say ", .ref p0, .ref p1, .ref p2, .ref p3, .ref p4, .ref p5, .ref p6, .ref p7, .str "echo", .int 0, .int 5, .int 1000, .str "a"]
def oddX : List PyData :=
  [.none, .bool true, .bool false, .int (-1), .int 6, .int 1001, .int 1000000001, .int (-1000000001), .int (10 ^ (30 : Int).toNat), .str "", .str "A", .str "abcdefghi", .str "a b", .str "-",
   .str "say ", .tuple [], .tuple [.str "say"], .tuple [.str "echo", .str "a"], .list [], .list [], .dict [], .tuple [.tuple [.str "echo"]], .list [], .str "echo", .int 0, .int 5, .int 1000, .str "a"]
theorem rep_b {H : Hp} {k : Nat} (b : Bool) : Rep H k (.bl b) (.bool b) := by cases k <;> rfl
theorem rep_l {H : Hp} {k : Nat} {a : Addr} {xs : List V} (h : H a = some (.lst xs)) : Rep H k (.ref a) (.list []) := by cases k <;> exact ⟨a, xs, rfl, h⟩
theorem rep_d {H : Hp} {k : Nat} {a : Addr} (h : H a = some (.dK [])) : Rep H k (.ref a) (.dict []) := by cases k <;> exact ⟨a, rfl, h⟩
theorem odd_pair {H : Hp} {p0 p1 p2 p3 p4 p5 p6 p7 q6 : Addr} {a3 a4 a7 : List V} (h0 : H p0 = some (.tup [])) (h1 : H p1 = some (.tup [.str "say"])) (h2 : H p2 = some (.tup [.str "echo", .str "a"])) (h3 : H p3 = some (.lst a3)) (h4 : H p4 = some (.lst a4)) (h5 : H p5 = some (.dK []))
    (g6 : H q6 = some (.tup [.str "echo"])) (h6 : H p6 = some (.tup [.ref q6])) (h7 : H p7 = some (.lst a7)) : Paired (fun v x => Rep H 2 v x ∧ szD x ≤ 20) (oddV p0 p1 p2 p3 p4 p5 p6 p7) oddX := by
  have S : ∀ x : Str, x.length ≤ 10 → Rep H 2 (.str x) (.str x) ∧ szD (.str x) ≤ 20 := fun x hx => ⟨rep_s x, by rw [szD]; omega⟩
  have I : ∀ i : Int, Rep H 2 (.int i) (.int i) ∧ szD (.int i) ≤ 20 := fun i => ⟨rep_i i, show 1 ≤ 20 by decide⟩
  refine .cons ⟨rep_n, by decide +kernel⟩ (.cons ⟨rep_b _, by decide +kernel⟩ (.cons ⟨rep_b _, by decide +kernel⟩ (.cons (I _) (.cons (I _) (.cons (I _) (.cons (I _) (.cons (I _) (.cons (I _) (.cons (S _ (by decide +kernel)) (.cons (S _ (by decide +kernel)) (.cons (S _ (by decide +kernel)) (.cons (S _ (by decide +kernel)) (.cons (S _ (by decide +kernel)) (.cons (S _ (by decide +kernel)) ?_))))))))))))))
  refine .cons ⟨rep_t h0 .nil, by decide +kernel⟩ (.cons ⟨rep_t h1 (.cons (rep_s _) .nil), by decide +kernel⟩ (.cons ⟨rep_t h2 (.cons (rep_s _) (.cons (rep_s _) .nil)), by decide +kernel⟩ (.cons ⟨rep_l h3, by decide +kernel⟩ (.cons ⟨rep_l h4, by decide +kernel⟩ (.cons ⟨rep_d h5, by decide +kernel⟩
    (.cons ⟨rep_t h6 (.cons (rep_t g6 (.cons (rep_s _) .nil)) .nil), by decide +kernel⟩ (.cons ⟨rep_l h7, by decide +kernel⟩ (.cons (S _ (by decide +kernel)) (.cons (I _) (.cons (I _) (.cons (I _) (.cons (S _ (by decide +kernel)) .nil))))))))))))
def spOdd : Sp := fun vs H Q _ => ∃ (d l : Addr) (ms : List Int) (n L : Int), vs = [.ref d] ∧ Pen H d l ms n L ∧ n < 2 ^ 39 ∧ ∀ (v : V) (x : PyData) (n' L' : Int) (H' : Hp), Rep H' 2 v x → szD x ≤ 20 → Dr H H' d l ms n n' L' 1 → Q v H'
abbrev sOdd : Stmt := top 22
theorem scOdd : FnScope ["_law_held", "_law_some"] ["_law_held"] (defScope sOdd) := ⟨rfl, rfl, rfl, by decide +kernel, rfl, by decide +kernel, by decide +kernel⟩
theorem ok_odd {f fD : Addr} {fd dD : FuncData} (F : Fun K "_law_odd" "_law_odd" sOdd f fd) (GD : FnOk P w K mg pB CX0 1 fD dD ["_law_held", "_law_many"] spDraw) (mD : mg "_law_draw" = some (.ref fD)) (kD : PySem.W.keepIn K (.ref fD) = true) (bD : Binds K dD ["_law_held", "_law_many"] []) :
    FnOk P w K mg pB CX0 2 f fd ["_law_held"] spOdd := by
  refine F.ok scOdd (fun vs H Q E h => ?_) (fun cdv A outer s H vs Q E hr h => ?_)
  · obtain ⟨d, l, ms, n, L, rfl, _⟩ := h
    rfl
  · obtain ⟨d, l, ms, n, L, rfl, p, hn, k⟩ := h
    have nd := scOdd.nd
    refine ⟨_, pss_cons (ps_set (i := 1) nd rfl (Or.inl rfl) (pe_lst (pa_cons pe_non (pa_cons pe_bl (pa_cons pe_bl (pa_cons (pe_un un_neg pe_int) (pa_cons pe_int (pa_cons pe_int (pa_cons pe_int (pa_cons (pe_un un_neg pe_int) (pa_cons (pe_op op_pow pe_int pe_int)
        (pa_cons pe_str (pa_cons pe_str (pa_cons pe_str (pa_cons pe_str (pa_cons pe_str pa_nil))))))))))))))))
      (pss_cons (ps_set (i := 1) nd rfl (Or.inl rfl) (pe_op op_cat (pv 1) (pe_lst (pa_cons pe_str (pa_cons (pe_tup pa_nil) (pa_cons (pe_tup (pa_cons pe_str pa_nil)) (pa_cons (pe_tup (pa_cons pe_str (pa_cons pe_str pa_nil)))
        (pa_cons (pe_lst pa_nil) (pa_cons (pe_lst (pa_cons pe_str (pa_cons pe_str pa_nil))) (pa_cons pe_dnewK (pa_cons (pe_tup (pa_cons (pe_tup (pa_cons pe_str pa_nil)) pa_nil)) (pa_cons (pe_lst (pa_cons (pe_tup (pa_cons pe_str pa_nil)) pa_nil)) (pa_cons pe_str pa_nil)))))))))))))
      (pss_one (ps_ret (pe_ix ix_list (pe_op op_cat (pv 1) (pe_lst (pa_cons pe_int (pa_cons pe_int (pa_cons pe_int (pa_cons pe_str pa_nil))))))
        (pe_call GD hr rfl mD kD bD .nil pass0 (pa_cons (pv 0) (pa_cons pe_int pa_nil))) (fun _ _ => rfl))))), ?_⟩
    refine asg_n ⟨_, rfl, _, rfl, _, _, rfl, rfl, ⟨by decide, by decide, by decide⟩, by show 14 ≤ sizeLine; decide, fun l1 hl1 => ?_⟩
    generalize hA : ([V.non, .bl true, .bl false, .int (-1), .int 6, .int 1001, .int 1000000001, .int (-1000000001), .int (10 ^ (30 : Int).toNat), .str "", .str "A", .str "abcdefghi", .str "a b", .str "-"] : List V) = A1
    have s1 : Same H (upd H l1 (.lst A1)) := Same.new (Same.refl _) hl1
    have c1 : (upd H l1 (.lst A1)) l1 = some (.lst A1) := upd_same
    have hA14 : A1.length = 14 := by rw [← hA]; rfl
    refine asg_n ⟨_, rfl, ?_⟩
    refine lst_of (cons_c (cons_of (rdT0 fun p0 H0 t0 e0 => cons_of (rdT1 fun p1 H1 t1 e1 => cons_of (rdT2 fun p2 H2 t2 e2 => cons_of (rdL0 fun p3 H3 t3 e3 => cons_of (rdL2 fun p4 H4 t4 e4 => cons_of (rdD fun p5 H5 t5 e5 => cons_of (rdTT fun q6 p6 H6 t6 g6 e6 => cons_of (rdLT fun q7 p7 H7 t7 e7 => ?_))))))))))
    refine ⟨by show 10 ≤ sizeLine; decide, fun l2 hl2 => ?_⟩
    have z7 : Same H7 (upd H7 l2 (.lst [.str "say ", .ref p0, .ref p1, .ref p2, .ref p3, .ref p4, .ref p5, .ref p6, .ref p7, .str "echo"])) := Same.new (Same.refl _) hl2
    have u6 := t7.trans z7
    have u5 := t6.trans u6
    have u4 := t5.trans u5
    have u3 := t4.trans u4
    have u2 := t3.trans u3
    have u1 := t2.trans u2
    have u0 := t1.trans u1
    have uA := t0.trans u0
    have c2 := uA _ _ c1
    refine ⟨l1, l2, _, _, rfl, rfl, c2, upd_same, by rw [hA14]; show 24 ≤ sizeLine; decide, fun l3 hl3 => ?_⟩
    have z8 := Same.new (o := .lst (A1 ++ [.str "say ", .ref p0, .ref p1, .ref p2, .ref p3, .ref p4, .ref p5, .ref p6, .ref p7, .str "echo"])) (Same.refl _) hl3
    refine ⟨_, rfl, by show 4 ≤ sizeLine; decide, fun l4 hl4 => ?_⟩
    have z9 := Same.new (o := .lst [.int 0, .int 5, .int 1000, .str "a"]) (Same.refl _) hl4
    refine ⟨l3, l4, _, _, rfl, rfl, z9 _ _ upd_same, upd_same, by rw [List.length_append, hA14]; show 28 ≤ sizeLine; decide, fun l5 hl5 => ?_⟩
    have zA := Same.new (o := .lst (A1 ++ [.str "say ", .ref p0, .ref p1, .ref p2, .ref p3, .ref p4, .ref p5, .ref p6, .ref p7, .str "echo"] ++ [.int 0, .int 5, .int 1000, .str "a"])) (Same.refl _) hl5
    have zz := z8.trans (z9.trans zA)
    have all := s1.trans (uA.trans zz)
    have pr := odd_pair (zz _ _ (u0 _ _ e0)) (zz _ _ (u1 _ _ e1)) (zz _ _ (u2 _ _ e2)) (zz _ _ (u3 _ _ e3)) (zz _ _ (u4 _ _ e4)) (zz _ _ (u5 _ _ e5)) (zz _ _ (u6 _ _ g6)) (zz _ _ (u6 _ _ e6)) (zz _ _ (z7 _ _ e7))
    have eL : A1 ++ [.str "say ", .ref p0, .ref p1, .ref p2, .ref p3, .ref p4, .ref p5, .ref p6, .ref p7, .str "echo"] ++ [.int 0, .int 5, .int 1000, .str "a"] = oddV p0 p1 p2 p3 p4 p5 p6 p7 := by
      rw [← hA]; rfl
    rw [eL]
    rw [eL] at all pr
    refine rd_dr (m := 28) rfl (fun _ h => h) (p.same all) (by omega) (by decide) (by decide) fun r n2 L2 HZ r0 r1 x2 => ?_
    have cq : HZ l5 = some (.lst (oddV p0 p1 p2 p3 p4 p5 p6 p7)) := x2.kp _ _ upd_same (ne_of upd_same (p.same all).dc (by intro z; cases z))
    obtain ⟨v, _, hat, hg⟩ := atI_of (xs := oddV p0 p1 p2 p3 p4 p5 p6 p7) r0 r1
    obtain ⟨x, _, hx1, hx2⟩ := Paired.at pr hg
    exact ⟨l5, _, _, v, rfl, rfl, SqL.of cq, hat, k v x n2 L2 HZ (x2.rep (p.same all) hx1) hx2 ((((Dr.refl p).same all).trans x2).wk (by decide))⟩
end
end My

set_option Elab.async false
set_option linter.all false
set_option maxRecDepth 100000
set_option maxHeartbeats 4000000
namespace My
open PySem L2
section
variable {P : Program} {w : World} {K : PySem.W.Frag} {mg : Str → Option Value} {pB : Heap}
theorem flat_rep {α : Type} (v : α) : ∀ m : Nat, (List.replicate m [v]).flatten = List.replicate m v
  | 0 => rfl
  | m + 1 => by rw [List.replicate_succ, List.flatten_cons, flat_rep v m, List.replicate_succ]; rfl
theorem pair_rep {α β : Type} {F : α → β → Prop} {a : α} {b : β} (h : F a b) : ∀ m : Nat, Paired F (List.replicate m a) (List.replicate m b)
  | 0 => .nil
  | m + 1 => .cons h (pair_rep h m)
/-- (v,) * k, read -/
theorem rd_rep {H : Hp} {Q : VK} {t : Addr} {v : V} {k : Int} (ht : H t = some (.tup [v])) (h1 : 1 ≤ k) (h2 : k ≤ 1000) (h : ∀ p H', Same H H' → H' p = some (.tup (List.replicate k.toNat v)) → Q (.ref p) H') : rRepA K (.ref t) (.int k) H Q := by
  refine ⟨t, k, [v], rfl, rfl, SqT.of ht, by simp, h1, h2, by show 1 ≤ 1000; decide, fun e => ?_, fun _ p hp => ?_⟩
  · refine h t H (Same.refl _) ?_
    rw [ht, e]; rfl
  · exact h p _ (Same.new (Same.refl _) hp) (by rw [upd_same, flat_rep])
def spWide : Sp := fun vs H Q _ => ∃ (d l : Addr) (ms : List Int) (n L : Int), vs = [.ref d] ∧ Pen H d l ms n L ∧ n < 2 ^ 37 ∧ ∀ (v : V) (x : PyData) (n' L' : Int) (H' : Hp), Rep H' 6 v x → szD x ≤ 400 → Dr H H' d l ms n n' L' 60 → Q v H'
abbrev sWide : Stmt := top 24
theorem scWide : FnScope ["_law_held", "_law_deep", "_law_k"] ["_law_held"] (defScope sWide) := ⟨rfl, rfl, rfl, by decide +kernel, rfl, by decide +kernel, by decide +kernel⟩
theorem ok_wide {f fD fV : Addr} {fd dD dV : FuncData} (F : Fun K "_law_wide" "_law_wide" sWide f fd) (GD : FnOk P w K mg pB CX0 1 fD dD ["_law_held", "_law_many"] spDraw) (mD : mg "_law_draw" = some (.ref fD)) (kD : PySem.W.keepIn K (.ref fD) = true) (bD : Binds K dD ["_law_held", "_law_many"] [])
    (GV : FnOk P w K mg pB CX0 3 fV dV ["_law_held"] spWord) (mV : mg "_law_word" = some (.ref fV)) (kV : PySem.W.keepIn K (.ref fV) = true) (bV : Binds K dV ["_law_held"] []) (mR : mg "range" = none) :
    FnOk P w K mg pB CX0 4 f fd ["_law_held"] spWide := by
  refine F.ok scWide (fun vs H Q E h => ?_) (fun cdv A outer s H vs Q E hr h => ?_)
  · obtain ⟨d, l, ms, n, L, rfl, _⟩ := h
    rfl
  · obtain ⟨d, l, ms, n, L, rfl, p, hn, k⟩ := h
    have nd := scWide.nd
    have hr1 : Room 1 _ := hr.mono (by decide)
    refine ⟨_, pss_cons (ps_set (i := 1) nd rfl (Or.inl rfl) (pe_call GV hr rfl mV kV bV .nil pass0 (pa_cons (pv 0) pa_nil)))
      (pss_cons (ps_for PassesOwn.never rfl (pi_range1 rfl mR (pa_cons (pe_op op_add pe_int (pe_call GD hr1 rfl mD kD bD .nil pass0 (pa_cons (pv 0) (pa_cons pe_int pa_nil)))) pa_nil)) (pg_name (i := 2) nd rfl (Or.inl rfl))
        (pss_one (ps_set (i := 1) nd rfl (Or.inl rfl) (pe_op op_repA (pe_tup (pa_cons (pv 1) pa_nil)) (pe_op op_add pe_int (pe_call GD hr1 rfl mD kD bD .nil pass0 (pa_cons (pv 0) (pa_cons pe_int pa_nil))))))))
      (pss_one (ps_ret (pe_ix ix_list (pe_lst (pa_cons (pe_op op_repA (pe_tup (pa_cons pe_str pa_nil)) (pe_op op_add pe_int (pe_call GD hr1 rfl mD kD bD .nil pass0 (pa_cons (pv 0) (pa_cons pe_int pa_nil)))))
          (pa_cons (pe_slice sl_str pe_str po_none (po_some (pe_op op_add pe_int (pe_call GD hr1 rfl mD kD bD .nil pass0 (pa_cons (pv 0) (pa_cons pe_int pa_nil)))))) (pa_cons (pv 1) pa_nil))))
        (pe_call GD hr1 rfl mD kD bD .nil pass0 (pa_cons (pv 0) (pa_cons pe_int pa_nil))) (fun _ _ => rfl))))), ?_⟩
    refine asg_n ⟨_, rfl, d, l, ms, n, L, rfl, p, by omega, fun xw n1 L1 H1 hw _ x1 => ?_⟩
    have h1 := x1.hi
    refine rd_dr (m := 3) rfl (fun _ h => h) x1.pn (by omega) (by decide) (by decide) fun r n2 L2 H2 r0 r1 x2 => ⟨_, _, rfl, rfl, _, rfl, by omega, by omega, ?_⟩
    have h2 := x2.hi
    refine for_range (lo := 0) (n := (3 + r).toNat) (fun i σ H' => ∃ (v : V) (x : PyData) (n' L' : Int) (xk : Option V), σ = [some (.ref d), some v, xk] ∧ Rep H' i v x ∧ szD x + 1 ≤ 10 * 2 ^ i ∧ Dr H2 H' d l ms n2 n' L' i) ?_ ?_ ?_
    · exact ⟨.str xw, .str xw, n2, L2, _, rfl, rep_s xw, by rw [szD]; omega, Dr.refl x2.pn⟩
    · rintro i σ H' hi ⟨v, x, n', L', xk, rfl, hr', hs, x3⟩
      have h3 := x3.hi
      refine ⟨_, rfl, by show 1 ≤ sizeLine; decide, fun t ht => ?_⟩
      have s4 : Same H' (upd H' t (.tup [v])) := Same.new (Same.refl _) ht
      refine rd_dr (m := 2) rfl (fun _ h => h) (x3.pn.same s4) (by omega) (by decide) (by decide) fun r2 n5 L5 H5 q0 q1 x5 => ⟨_, _, rfl, rfl, ?_⟩
      have ct : H5 t = some (.tup [v]) := x5.kp _ _ upd_same (ne_of upd_same (x3.pn.same s4).dc (by intro z; cases z))
      refine rd_rep ct (by omega) (by omega) fun p6 H6 s6 c6 => ?_
      refine ⟨.ref p6, .tuple (List.replicate (1 + r2).toNat x), n5, L5, _, rfl, rep_t c6 (pair_rep ((x5.rep (x3.pn.same s4) (hr'.same s4)).same s6) _), ?_, (((x3.same s4).trans x5).same s6).wk (by omega)⟩
      rw [szD, szL_rep, Nat.pow_succ]
      have : (1 + r2).toNat * szD x ≤ 2 * szD x := Nat.mul_le_mul_right _ (by omega)
      omega
    · rintro σ H' ⟨v, x, n', L', xk, rfl, hr', hs, x3⟩
      have h3 := x3.hi
      have hi5 : (3 + r).toNat ≤ 5 := by omega
      have hsz : szD x ≤ 400 := by
        have : 2 ^ (3 + r).toNat ≤ 2 ^ 5 := Nat.pow_le_pow_right (by decide) hi5
        omega
      refine ⟨by show 1 ≤ sizeLine; decide, fun t ht => ?_⟩
      have s4 : Same H' (upd H' t (.tup [.str "a"])) := Same.new (Same.refl _) ht
      refine rd_dr (m := 3) rfl (fun _ h => h) (x3.pn.same s4) (by omega) (by decide) (by decide) fun r5 n5 L5 H5 q0 q1 x5 => ⟨_, _, rfl, rfl, ?_⟩
      have h5 := x5.hi
      have ct : H5 t = some (.tup [.str "a"]) := x5.kp _ _ upd_same (ne_of upd_same (x3.pn.same s4).dc (by intro z; cases z))
      refine rd_rep ct (by omega) (by omega) fun p6 H6 s6 c6 => ?_
      refine rd_dr (m := 4) rfl (fun _ h => h) (x5.pn.same s6) (by omega) (by decide) (by decide) fun r7 n7 L7 H7 u0 u1 x7 => ⟨_, _, rfl, rfl, _, rfl, _, rfl, by decide +kernel, _, rfl, by show 3 ≤ sizeLine; decide, fun q hq => ?_⟩
      have h7 := x7.hi
      have hlen := cutS_length (Str.ofString "abcdefghijk") none (some (7 + r7))
      generalize cutS (Str.ofString "abcdefghijk") none (some (7 + r7)) = zs at hlen ⊢
      have hlen : zs.length ≤ 11 := Nat.le_trans hlen (by decide +kernel)
      have s8 : Same H7 (upd H7 q (.lst [.ref p6, .str zs, v])) := Same.new (Same.refl _) hq
      refine rd_dr (m := 3) rfl (fun _ h => h) (x7.pn.same s8) (by omega) (by decide) (by decide) fun r9 n9 L9 H9 w0 w1 x9 => ?_
      have h9 := x9.hi
      have cq : H9 q = some (.lst [.ref p6, .str zs, v]) := x9.kp _ _ upd_same (ne_of upd_same (x7.pn.same s8).dc (by intro z; cases z))
      obtain ⟨y, hy, hat, _⟩ := atI_of (xs := [V.ref p6, V.str zs, v]) w0 w1
      refine ⟨q, _, _, y, rfl, rfl, SqL.of cq, hat, ?_⟩
      have tot : Dr H H9 d l ms n n9 L9 60 := (x1.trans (x2.trans ((x3.same s4).trans ((x5.same s6).trans ((x7.same s8).trans x9))))).wk (by omega)
      have up : ∀ {k : Nat} {v : V} {x : PyData}, Rep H' k v x → Rep H9 k v x := fun z => x9.rep (x7.pn.same s8) ((x7.rep (x5.pn.same s6) ((x5.rep (x3.pn.same s4) (z.same s4)).same s6)).same s8)
      simp only [List.mem_cons, List.mem_nil_iff, or_false] at hy
      rcases hy with rfl | rfl | rfl
      · have c7 : H9 p6 = some (.tup (List.replicate (19 + r5).toNat (.str "a"))) := x9.kp _ _ (s8 _ _ (x7.kp _ _ c6 (ne_of c6 (x5.pn.same s6).dc (by intro z; cases z)))) (ne_of (s8 _ _ (x7.kp _ _ c6 (ne_of c6 (x5.pn.same s6).dc (by intro z; cases z)))) (x7.pn.same s8).dc (by intro z; cases z))
        refine k _ (.tuple (List.replicate (19 + r5).toNat (.str "a"))) n9 L9 H9 (rep_t c7 (pair_rep (rep_s _) _)) ?_ tot
        rw [szD, szL_rep]
        have : (19 + r5).toNat * szD (.str "a") ≤ 21 * szD (.str "a") := Nat.mul_le_mul_right _ (by omega)
        have e : szD (.str "a") = 2 := by decide +kernel
        omega
      · exact k _ (.str zs) n9 L9 H9 (rep_s zs) (by rw [szD]; omega) tot
      · exact k _ x n9 L9 H9 ((up hr').mono (by omega)) hsz tot
end
end My

set_option Elab.async false
set_option linter.all false
set_option maxRecDepth 100000
set_option maxHeartbeats 4000000
namespace My
open PySem L2
section
variable {P : Program} {w : World} {K : PySem.W.Frag} {mg : Str → Option Value} {pB : Heap}
theorem pTake {α β : Type} {F : α → β → Prop} : ∀ {xs : List α} {ys : List β} (n : Nat), Paired F xs ys → Paired F (xs.take n) (ys.take n)
  | _, _, 0, _ => .nil
  | _, _, _ + 1, .nil => .nil
  | _, _, n + 1, .cons r t => .cons r (pTake n t)
theorem pDrop {α β : Type} {F : α → β → Prop} : ∀ {xs : List α} {ys : List β} (n : Nat), Paired F xs ys → Paired F (xs.drop n) (ys.drop n)
  | _, _, 0, r => r
  | _, _, _ + 1, .nil => .nil
  | _, _, n + 1, .cons _ t => pDrop n t
theorem pApp {α β : Type} {F : α → β → Prop} : ∀ {xs us : List α} {ys ws : List β}, Paired F xs ys → Paired F us ws → Paired F (xs ++ us) (ys ++ ws)
  | _, _, _, _, .nil, s => s
  | _, _, _, _, .cons r t, s => .cons r (pApp t s)
theorem pRev {α β : Type} {F : α → β → Prop} : ∀ {xs : List α} {ys : List β}, Paired F xs ys → Paired F xs.reverse ys.reverse
  | _, _, .nil => .nil
  | _, _, .cons r t => by
    rw [List.reverse_cons, List.reverse_cons]
    exact pApp (pRev t) (.cons r .nil)
theorem rd_cat {H : Hp} {Q : VK} {a b : Addr} {xs ys : List V} (ha : H a = some (.tup xs)) (hb : H b = some (.tup ys)) (hz : xs.length + ys.length ≤ sizeLine) (h : ∀ p H', Same H H' → H' p = some (.tup (xs ++ ys)) → Q (.ref p) H') : rCatA K (.ref a) (.ref b) H Q := by
  refine ⟨a, b, xs, ys, rfl, rfl, SqT.of ha, SqT.of hb, hz, fun e => ?_, fun _ e => ?_, fun _ _ p hp => h p _ (Same.new (Same.refl _) hp) upd_same⟩
  · exact h b H (Same.refl _) (by rw [hb, e]; rfl)
  · exact h a H (Same.refl _) (by rw [ha, e, List.append_nil])
theorem rd_slT {H : Hp} {Q : VK} {a : Addr} {xs : List V} {lo hi : Option Int} (ha : H a = some (.tup xs)) (h : ∀ p H', Same H H' → H' p = some (.tup (cutV xs lo hi)) → Q (.ref p) H') : rSlA K (.ref a) lo hi H Q := by
  refine ⟨a, xs, rfl, SqT.of ha, fun e => h a H (Same.refl _) ?_, fun _ p hp => h p _ (Same.new (Same.refl _) hp) upd_same⟩
  rw [ha]
  unfold cutV
  rw [e.1, e.2, List.drop_zero, Nat.sub_zero, List.take_length]
theorem cut_to (xs : List V) {k : Int} (h0 : 0 ≤ k) (h1 : k ≤ xs.length) : cutV xs none (some k) = xs.take k.toNat := by
  unfold cutV
  rw [HT.sIx_none, List.drop_zero, Nat.sub_zero]
  have e : HT.sIx xs.length xs.length (some k) = k.toNat := by
    show (if k < 0 then _ else min k.toNat xs.length) = _
    rw [if_neg (by omega)]; omega
  rw [e]
theorem cut_from (xs : List V) {k : Int} (h0 : 0 ≤ k) (h1 : k ≤ xs.length) : cutV xs (some k) none = xs.drop k.toNat := by
  unfold cutV
  have e : HT.sIx xs.length 0 (some k) = k.toNat := by
    show (if k < 0 then _ else min k.toNat xs.length) = _
    rw [if_neg (by omega)]; omega
  rw [HT.sIx_none, e, List.take_of_length_le]
  rw [List.length_drop]; omega
theorem szL_at {ds : List PyData} {i : Nat} {e : PyData} (h : ds[i]? = some e) : szL ds = szL (ds.take i) + szD e + szL (ds.drop (i + 1)) := by
  have hl : i < ds.length := (List.getElem?_eq_some_iff.mp h).1
  have e1 : ds.drop i = e :: ds.drop (i + 1) := by
    rw [List.drop_eq_getElem_cons hl]
    rw [List.getElem?_eq_getElem hl] at h
    rw [Option.some.inj h]
  rw [← szL_td ds i, e1, szL]; omega
theorem par_of {ta : TA} {i j : Nat} {b : TS} {D : Ends} {σ : L2.St} {H : Hp} (h : ta σ H fun vs H1 => ∃ v w, vs = [v, w] ∧ b D ((σ.set i (some v)).set j (some w)) H1) : tSeq (tPar i j ta) b D σ H := h
theorem np_of {σ : L2.St} {H : Hp} {Q : Option Int → Hp → Prop} (h : Q none H) : tNoPart σ H Q := h
theorem nxt_r {b : TS} {D : Ends} {σ : L2.St} {H : Hp} (h : b D σ H) : tNext { D with nx := b D } σ H := h
def bB (m : Nat) : Int := 10 * ((m : Int) + 1)
def spBent (m : Nat) : Sp := fun vs H Q _ => ∃ (d l : Addr) (ms : List Int) (n L : Int) (v : V) (x : PyData), vs = [.ref d, v] ∧ Pen H d l ms n L ∧ n + bB m < 2 ^ 39 ∧ Rep H m v x ∧ szD x ≤ 1000000 ∧
  ∀ (v' : V) (x' : PyData) (n' L' : Int) (H' : Hp), Rep H' (m + 2) v' x' → szD x' ≤ 2 * szD x + 20 → Dr H H' d l ms n n' L' (bB m) → Q v' H'
def spPrevB : Nat → Sp
  | 0 => spBot
  | m + 1 => spBent m
abbrev sBent : Stmt := top 23
theorem scBent : FnScope ["_law_held", "_law_it", "_law_at", "_law_far", "_law_way"] ["_law_held", "_law_it"] (defScope sBent) := ⟨rfl, rfl, rfl, by decide +kernel, rfl, by decide +kernel, by decide +kernel⟩
theorem step_bent {f fD fO : Addr} {fd dD dO : FuncData} (F : Fun K "_law_bent" "_law_bent" sBent f fd) (m : Nat) (G : FnOk P w K mg pB CX0 (m + 2) f fd ["_law_held", "_law_it"] (spPrevB m)) (mG : mg "_law_bent" = some (.ref f)) (bG : Binds K fd ["_law_held", "_law_it"] [])
    (GD : FnOk P w K mg pB CX0 1 fD dD ["_law_held", "_law_many"] spDraw) (mD : mg "_law_draw" = some (.ref fD)) (kD : PySem.W.keepIn K (.ref fD) = true) (bD : Binds K dD ["_law_held", "_law_many"] [])
    (GO : FnOk P w K mg pB CX0 2 fO dO ["_law_held"] spOdd) (mO : mg "_law_odd" = some (.ref fO)) (kO : PySem.W.keepIn K (.ref fO) = true) (bO : Binds K dO ["_law_held"] [])
    (mI : mg "isinstance" = none) (mT : mg "tuple" = none) (mLen : mg "len" = none) (mL : mg "list" = none) : FnOk P w K mg pB CX0 (m + 3) f fd ["_law_held", "_law_it"] (spBent m) := by
  refine F.ok scBent (fun vs H Q E h => ?_) (fun cdv A outer s H vs Q E hr h => ?_)
  · obtain ⟨d, l, ms, n, L, v, x, rfl, _⟩ := h
    rfl
  · obtain ⟨d, l, ms, n, L, v, x, rfl, p, hn, hR, hz, k⟩ := h
    have nd := scBent.nd
    have hr1 : Room 1 _ := hr.mono (by omega)
    have hr2 : Room 2 _ := hr.mono (by omega)
    have hbB : bB m = 10 * ((m : Int) + 1) := rfl
    refine ⟨_, pss_cons (ps_if (PW.pt (pw_or (pt_not (pt_val (pe_callB call_isi (by rfl) mI (by decide +kernel) (pa_cons (pv 1) (pa_cons (pe_bltn (by rfl) mT (by decide +kernel) (show RelV (.ty "tuple") (.type "tuple") from rfl)) pa_nil)))))
        (pw_or (pt_cmpR (op_eqT0 hr.units) (pv 1) (pe_tup pa_nil) (nomark _)) (pw_or1 (pt_cmpR op_eq (pe_call GD hr1 rfl mD kD bD .nil pass0 (pa_cons (pv 0) (pa_cons pe_int pa_nil))) pe_int (nomark _))))))
        (pss_one (ps_ret (pe_call GO hr2 rfl mO kO bO .nil pass0 (pa_cons (pv 0) pa_nil)))) pss_nil)
      (pss_cons (ps_par (by rfl) nd (i := 2) (j := 3) rfl rfl (by decide) rfl rfl (pa_cons (pe_call GD hr1 rfl mD kD bD .nil pass0 (pa_cons (pv 0) (pa_cons (pe_callB call_len_seq (by rfl) mLen PySem.boot_len (pa_cons (pv 1) pa_nil)) pa_nil)))
        (pa_cons (pe_call GD hr1 rfl mD kD bD .nil pass0 (pa_cons (pv 0) (pa_cons (pe_callB call_len_seq (by rfl) mLen PySem.boot_len (pa_cons (pv 1) pa_nil)) pa_nil))) pa_nil)) (by rfl))
      (pss_cons (ps_set (i := 4) nd rfl (Or.inl rfl) (pe_call GD hr1 rfl mD kD bD .nil pass0 (pa_cons (pv 0) (pa_cons pe_int pa_nil))))
      (pss_cons (ps_if (pt_cmpR op_lt (pv 4) pe_int (nomark _)) (pss_one (ps_ret (pe_op op_catA (pe_op op_catA (pe_slice sl_tupA (pv 1) po_none (po_some (pv 2)))
          (pe_tup (pa_cons (pe_call G hr rfl mG F.kp bG .nil pass0 (pa_cons (pv 0) (pa_cons (pe_ix ix_tup (pv 1) (pv 2) (fun _ _ => rfl)) pa_nil))) pa_nil))) (pe_slice sl_tupA (pv 1) (po_some (pe_op op_add (pv 2) pe_int)) po_none)))) pss_nil)
      (pss_cons (ps_if (pt_cmpR op_eq (pv 4) pe_int (nomark _)) (pss_one (ps_ret (pe_op op_catA (pe_slice sl_tupA (pv 1) po_none (po_some (pv 2))) (pe_slice sl_tupA (pv 1) (po_some (pe_op op_add (pv 2) pe_int)) po_none)))) pss_nil)
      (pss_cons (ps_if (pt_cmpR op_eq (pv 4) pe_int (nomark _)) (pss_one (ps_ret (pe_op op_catA (pe_op op_catA (pe_slice sl_tupA (pv 1) po_none (po_some (pv 2))) (pe_tup (pa_cons (pe_ix ix_tup (pv 1) (pv 3) (fun _ _ => rfl)) pa_nil))) (pe_slice sl_tupA (pv 1) (po_some (pv 2)) po_none)))) pss_nil)
      (pss_one (ps_ret (pe_ix ix_list (pe_lst (pa_cons (pe_op op_catA (pe_op op_catA (pe_slice sl_tupA (pv 1) po_none (po_some (pv 2))) (pe_tup (pa_cons (pe_ix ix_tup (pv 1) (pv 3) (fun _ _ => rfl)) pa_nil))) (pe_slice sl_tupA (pv 1) (po_some (pe_op op_add (pv 2) pe_int)) po_none))
          (pa_cons (pe_ix ix_list (pe_lst (pa_cons (pe_revT (pv 1)) (pa_cons (pe_callTy call_list_of (by rfl) mL (by decide +kernel) (pa_cons (pv 1) pa_nil)) pa_nil))) (pe_call GD hr1 rfl mD kD bD .nil pass0 (pa_cons (pv 0) (pa_cons pe_int pa_nil))) (fun _ _ => rfl)) pa_nil)))
        (pe_op op_sub (pv 4) pe_int) (fun _ _ => rfl))))))))), ?_⟩
    have odd : ∀ (H1 : Hp) (n1 L1 : Int), Dr H H1 d l ms n n1 L1 1 → spOdd [.ref d] H1 Q E0 := fun H1 n1 L1 x1 => by
      have := x1.hi
      exact ⟨d, l, ms, n1, L1, rfl, x1.pn, by omega, fun v2 t2 n2 L2 H2 hr2 hs2 x2 => k v2 t2 n2 L2 H2 (hr2.mono (by omega)) (by omega) ((x1.trans x2).wk (by omega))⟩
    refine rd_isi (.inr (.inr (.inr rfl))) rfl hR ⟨_, rfl, ?_⟩
    rcases @notTup x with ⟨ds, rfl⟩ | hnt
    · refine iteB0 rfl ?_
      obtain ⟨m', a, xs, rfl, rfl, ha, hp⟩ := rep_tup hR
      have hlen := Paired.length hp
      refine ⟨_, rfl, by show 0 ≤ sizeLine; decide, fun t0 ht0 => ?_⟩
      have s0 : Same H (upd H t0 (.tup [])) := Same.new (Same.refl _) ht0
      refine ⟨a, t0, xs, rfl, rfl, SqT.of (s0 _ _ ha), SqT.of upd_same, _, rfl, ?_⟩
      cases hxe : xs.isEmpty with
      | true => exact iteT (iteT ⟨_, rfl, odd _ n L (((Dr.refl p).same s0).wk (by decide))⟩)
      | false =>
        have hpos : 0 < xs.length := by
          cases xs with
          | nil => cases hxe
          | cons _ _ => exact Nat.succ_pos _
        have hsl : szL ds < 1000000 := by rw [szD] at hz; omega
        have hxl : xs.length ≤ szL ds := by rw [hlen]; exact szL_len ds
        refine iteF (rd_dr (m := 12) rfl (fun _ h => h) (p.same s0) (by omega) (by decide) (by decide) fun r1 n1 L1 H1 u0 u1 x1 => ⟨rfl, _, rfl, ?_⟩)
        have X1 := ((Dr.refl p).same s0).trans x1
        have h1 := X1.hi
        refine ite2 (fun _ => ⟨_, rfl, odd H1 n1 L1 (X1.wk (by decide))⟩) (fun _ => ?_)
        have keepA : ∀ {Hk : Hp} {nk Lk c : Int}, Dr H Hk d l ms n nk Lk c → Hk a = some (.tup xs) := fun X => X.kp _ _ ha (ne_of ha p.dc (by intro z; cases z))
        have keepP : ∀ {Hk : Hp} {nk Lk c : Int}, Dr H Hk d l ms n nk Lk c → Paired (Rep Hk m') xs ds := fun X => Paired.mapP hp fun _ _ z => X.rep p z
        refine nxt_of (par_of (cons_of (rd_dr (m := (xs.length : Int)) rfl (fun _ h => ⟨_, rfl, a, xs, rfl, .inr (SqT.of (keepA X1)), h⟩) x1.pn (by omega) (by omega) (by omega) fun at_ n2 L2 H2 a0 a1 x2 => ?_)))
        have X2 := X1.trans x2
        have h2 := X2.hi
        refine cons_of (rd_dr (m := (xs.length : Int)) rfl (fun _ h => ⟨_, rfl, a, xs, rfl, .inr (SqT.of (keepA X2)), h⟩) x2.pn (by omega) (by omega) (by omega) fun far n3 L3 H3 f0 f1 x3 => ⟨_, _, rfl, ?_⟩)
        have X3 := X2.trans x3
        have h3 := X3.hi
        refine asg_n (rd_dr (m := 10) rfl (fun _ h => h) x3.pn (by omega) (by decide) (by decide) fun way n4 L4 H4 w0 w1 x4 => ?_)
        have X4 := X3.trans x4
        have h4 := X4.hi
        have ca4 := keepA X4
        obtain ⟨xe, _, hatI, hge⟩ := atI_of (xs := xs) a0 a1
        obtain ⟨xf, _, hfaI, hgf⟩ := atI_of (xs := xs) f0 f1
        obtain ⟨te, hte, hre⟩ := Paired.at (keepP X4) hge
        obtain ⟨tf, htf, hrf⟩ := Paired.at (keepP X4) hgf
        have ze := szL_at hte
        have zf := szL_get htf
        have lt1 : (xs.take at_.toNat).length ≤ xs.length := List.length_take_le' _ _
        have ld1 : (xs.drop (at_ + 1).toNat).length ≤ xs.length := by rw [List.length_drop]; omega
        have ld0 : (xs.drop at_.toNat).length ≤ xs.length := by rw [List.length_drop]; omega
        have eD : (at_ + 1).toNat = at_.toNat + 1 := by omega
        have big : 3 * xs.length + 10 ≤ sizeLine := Nat.le_trans (show 3 * xs.length + 10 ≤ 4000000 by omega) (by decide)
        have fin : ∀ {Hk : Hp} {nk Lk c : Int} {pk : Addr} {ys : List V} {es : List PyData}, Dr H Hk d l ms n nk Lk c → c ≤ bB (m' + 1) → Hk pk = some (.tup ys) → Paired (Rep Hk (m' + 2)) ys es → szL es ≤ 2 * szL ds + 20 → Q (.ref pk) Hk :=
          fun X hc hk hpp hs => k (.ref _) (.tuple _) _ _ _ (rep_t hk hpp) (by rw [szD, szD]; omega) (X.wk hc)
        have upl : ∀ {Hk : Hp} {nk Lk c : Int}, Dr H Hk d l ms n nk Lk c → Paired (Rep Hk (m' + 2)) xs ds := fun X => Paired.mapP (keepP X) fun _ _ z => z.mono (by omega)
        have hbB' : bB (m' + 1) = 10 * (((m' + 1 : Nat) : Int) + 1) := rfl
        have hbB2 : bB m' = 10 * ((m' : Int) + 1) := rfl
        refine ⟨_, rfl, _, _, rfl, rfl, _, rfl, ite2 (fun c1 => ?_) (fun c1 => ?_)⟩
        · refine ⟨_, rfl, _, rfl, _, rfl, rd_slT ca4 fun p5 H5 s5 c5 => ?_⟩
          rw [cut_to xs a0 (by omega)] at c5
          have X5 := X4.same s5
          have h5 := X5.hi
          refine call_of (sp := spBent m') ⟨_, rfl, _, rfl, _, rfl, a, xs, _, xe, rfl, rfl, SqT.of (s5 _ _ ca4), hatI, d, l, ms, n4, L4, xe, te, rfl, X5.pn, by omega, hre.same s5, by omega, fun v6 t6 n6 L6 H6 hr6 hs6 x6 => ⟨by show 1 ≤ sizeLine; decide, fun t7 ht7 => ?_⟩⟩
          have s7 : Same H6 (upd H6 t7 (.tup [v6])) := Same.new (Same.refl _) ht7
          have X7 := (X5.trans x6).same s7
          have h7 := X7.hi
          have c5' : (upd H6 t7 (.tup [v6])) p5 = some (.tup (xs.take at_.toNat)) := s7 _ _ (x6.kp _ _ c5 (ne_of c5 X5.pn.dc (by intro z; cases z)))
          refine rd_cat c5' upd_same (by show _ + 1 ≤ sizeLine; omega) fun p8 H8 s8 c8 => ?_
          have X8 := X7.same s8
          refine ⟨_, rfl, _, rfl, _, _, rfl, rfl, _, rfl, np_of (rd_slT (keepA X8) fun p9 H9 s9 c9 => ?_)⟩
          rw [cut_from xs (by omega) (by omega)] at c9
          have X9 := X8.same s9
          refine rd_cat (s9 _ _ c8) c9 (by rw [List.length_append]; show _ + 1 + _ ≤ sizeLine; omega) fun p10 H10 s10 c10 => ?_
          have X10 := X9.same s10
          have hv6 : Rep H10 (m' + 2) v6 t6 := (((hr6.same s7).same s8).same s9).same s10
          refine fin X10 (by omega) c10 (pApp (pApp (pTake at_.toNat (upl X10)) (.cons hv6 .nil)) (pDrop (at_ + 1).toNat (upl X10))) ?_
          rw [szL_app, szL_app, szL, szL, eD]
          omega
        refine ⟨_, rfl, rfl, _, rfl, ite2 (fun c2 => ?_) (fun c2 => ?_)⟩
        · refine ⟨_, rfl, _, rfl, _, rfl, rd_slT ca4 fun p5 H5 s5 c5 => ?_⟩
          rw [cut_to xs a0 (by omega)] at c5
          have X5 := X4.same s5
          refine ⟨_, rfl, _, rfl, _, _, rfl, rfl, _, rfl, np_of (rd_slT (keepA X5) fun p9 H9 s9 c9 => ?_)⟩
          rw [cut_from xs (by omega) (by omega)] at c9
          refine rd_cat (s9 _ _ c5) c9 (by omega) fun p10 H10 s10 c10 => ?_
          have X10 := (X5.same s9).same s10
          refine fin X10 (by omega) c10 (pApp (pTake at_.toNat (upl X10)) (pDrop (at_ + 1).toNat (upl X10))) ?_
          rw [szL_app, eD]
          omega
        refine ⟨_, rfl, rfl, _, rfl, ite2 (fun c3 => ?_) (fun c3 => ?_)⟩
        · refine ⟨_, rfl, _, rfl, _, rfl, rd_slT ca4 fun p5 H5 s5 c5 => ?_⟩
          rw [cut_to xs a0 (by omega)] at c5
          refine ⟨_, rfl, _, rfl, a, xs, _, xf, rfl, rfl, SqT.of (s5 _ _ ca4), hfaI, by show 1 ≤ sizeLine; decide, fun t7 ht7 => ?_⟩
          have s7 : Same H5 (upd H5 t7 (.tup [xf])) := Same.new (Same.refl _) ht7
          refine rd_cat (s7 _ _ c5) upd_same (by show _ + 1 ≤ sizeLine; omega) fun p8 H8 s8 c8 => ?_
          have X8 := ((X4.same s5).same s7).same s8
          refine ⟨_, rfl, _, rfl, _, rfl, np_of (rd_slT (keepA X8) fun p9 H9 s9 c9 => ?_)⟩
          rw [cut_from xs a0 (by omega)] at c9
          refine rd_cat (s9 _ _ c8) c9 (by rw [List.length_append]; show _ + 1 + _ ≤ sizeLine; omega) fun p10 H10 s10 c10 => ?_
          have X10 := (X8.same s9).same s10
          have hvf : Rep H10 (m' + 2) xf tf := ((((hrf.same s5).same s7).same s8).same s9 |>.same s10).mono (by omega)
          refine fin X10 (by omega) c10 (pApp (pApp (pTake at_.toNat (upl X10)) (.cons hvf .nil)) (pDrop at_.toNat (upl X10))) ?_
          have := szL_td ds at_.toNat
          rw [szL_app, szL_app, szL, szL]
          omega
        refine nxt_r ?_
        refine ⟨_, rfl, _, rfl, _, rfl, rd_slT ca4 fun p5 H5 s5 c5 => ?_⟩
        rw [cut_to xs a0 (by omega)] at c5
        refine ⟨_, rfl, _, rfl, a, xs, _, xf, rfl, rfl, SqT.of (s5 _ _ ca4), hfaI, by show 1 ≤ sizeLine; decide, fun t7 ht7 => ?_⟩
        have s7 : Same H5 (upd H5 t7 (.tup [xf])) := Same.new (Same.refl _) ht7
        refine rd_cat (s7 _ _ c5) upd_same (by show _ + 1 ≤ sizeLine; omega) fun p8 H8 s8 c8 => ?_
        have X8 := ((X4.same s5).same s7).same s8
        refine ⟨_, rfl, _, rfl, _, _, rfl, rfl, _, rfl, np_of (rd_slT (keepA X8) fun p9 H9 s9 c9 => ?_)⟩
        rw [cut_from xs (by omega) (by omega)] at c9
        refine rd_cat (s9 _ _ c8) c9 (by rw [List.length_append]; show _ + 1 + _ ≤ sizeLine; omega) fun p10 H10 s10 c10 => ?_
        have X10 := (X8.same s9).same s10
        have ca10 := keepA X10
        refine ⟨_, rfl, a, xs, rfl, SqT.of ca10, fun r1 hr1' => ?_⟩
        have s11 : Same H10 (upd H10 r1 (.tup xs.reverse)) := Same.new (Same.refl _) hr1'
        have ca11 := s11 _ _ ca10
        refine ⟨_, rfl, a, xs, rfl, .inr (SqT.of ca11), fun l1 hl1 => ?_⟩
        have s12 := Same.new (o := .lst xs) (Same.refl _) hl1
        refine ⟨by show 2 ≤ sizeLine; decide, fun l2 hl2 => ?_⟩
        have s13 := Same.new (o := .lst [.ref r1, .ref l1]) (Same.refl _) hl2
        have s14 := s11.trans (s12.trans s13)
        have X14 := X10.same s14
        have h14 := X14.hi
        have cr := s13 _ _ (s12 _ _ (upd_same (H := H10) (a := r1) (o := .tup xs.reverse)))
        have cl := s13 _ _ (upd_same (H := upd H10 r1 (.tup xs.reverse)) (a := l1) (o := .lst xs))
        refine rd_dr (m := 2) rfl (fun _ h => h) X14.pn (by omega) (by decide) (by decide) fun r n15 L15 H15 r0 r1' x15 => ?_
        have X15 := X14.trans x15
        have cL2 := x15.kp _ _ (upd_same (a := l2) (o := .lst [.ref r1, .ref l1])) (ne_of upd_same X14.pn.dc (by intro z; cases z))
        have cr15 := x15.kp _ _ cr (ne_of cr X14.pn.dc (by intro z; cases z))
        have cl15 := x15.kp _ _ cl (ne_of cl X14.pn.dc (by intro z; cases z))
        have c10' := x15.kp _ _ (s14 _ _ c10) (ne_of (s14 _ _ c10) X14.pn.dc (by intro z; cases z))
        obtain ⟨vi, hvi, hati, _⟩ := atI_of (xs := [V.ref r1, V.ref l1]) r0 r1'
        refine ⟨l2, _, _, vi, rfl, rfl, SqL.of cL2, hati, ?_⟩
        refine ⟨by show 2 ≤ sizeLine; decide, fun l3 hl3 => ?_⟩
        have s16 := Same.new (o := .lst [.ref p10, vi]) (Same.refl _) hl3
        have X16 := X15.same s16
        have e1 : ¬ way < 6 := fun h => c1 (decide_eq_true h)
        have e2 : ¬ way = 6 := fun h => c2 (by rw [h]; rfl)
        have e3 : ¬ way = 7 := fun h => c3 (by rw [h]; rfl)
        obtain ⟨vo, hvo, hato, _⟩ := atI_of (xs := [V.ref p10, vi]) (r := way - 8) (by omega) (by show way - 8 < 2; omega)
        refine ⟨_, rfl, _, _, rfl, rfl, l3, _, _, vo, rfl, rfl, SqL.of upd_same, hato, ?_⟩
        have hvf : Rep _ (m' + 2) xf tf := ((((((hrf.same s5).same s7).same s8).same s9 |>.same s10).same s14 |> x15.rep X14.pn).same s16).mono (by omega)
        rcases List.mem_cons.mp hvo with rfl | hvo
        · refine fin X16 (by omega) (s16 _ _ c10') (pApp (pApp (pTake at_.toNat (upl X16)) (.cons hvf .nil)) (pDrop (at_ + 1).toNat (upl X16))) ?_
          rw [szL_app, szL_app, szL, szL, eD]
          omega
        cases List.mem_singleton.mp hvo
        rcases List.mem_cons.mp hvi with rfl | hvi
        · refine fin X16 (by omega) (s16 _ _ cr15) (pRev (upl X16)) ?_
          rw [szL_rev]; omega
        · cases List.mem_singleton.mp hvi
          exact k _ (.list []) _ _ _ (rep_l (s16 _ _ cl15)) (by show 1 ≤ _; omega) (X16.wk (by omega))
    · refine iteB1 (by cases x <;> first | rfl | exact absurd rfl (hnt _)) (iteT ?_)
      exact ⟨_, rfl, odd H n L ((Dr.refl p).wk (by decide))⟩
theorem ok_bent {f fD fO : Addr} {fd dD dO : FuncData} (F : Fun K "_law_bent" "_law_bent" sBent f fd) (mG : mg "_law_bent" = some (.ref f)) (bG : Binds K fd ["_law_held", "_law_it"] [])
    (GD : FnOk P w K mg pB CX0 1 fD dD ["_law_held", "_law_many"] spDraw) (mD : mg "_law_draw" = some (.ref fD)) (kD : PySem.W.keepIn K (.ref fD) = true) (bD : Binds K dD ["_law_held", "_law_many"] [])
    (GO : FnOk P w K mg pB CX0 2 fO dO ["_law_held"] spOdd) (mO : mg "_law_odd" = some (.ref fO)) (kO : PySem.W.keepIn K (.ref fO) = true) (bO : Binds K dO ["_law_held"] [])
    (mI : mg "isinstance" = none) (mT : mg "tuple" = none) (mLen : mg "len" = none) (mL : mg "list" = none) : ∀ m, FnOk P w K mg pB CX0 (m + 3) f fd ["_law_held", "_law_it"] (spBent m)
  | 0 => step_bent F 0 ok_bot mG bG GD mD kD bD GO mO kO bO mI mT mLen mL
  | m + 1 => step_bent F (m + 1) (ok_bent F mG bG GD mD kD bD GO mO kO bO mI mT mLen mL m) mG bG GD mD kD bD GO mO kO bO mI mT mLen mL
end
end My

set_option Elab.async false
set_option linter.all false
set_option maxRecDepth 100000
set_option maxHeartbeats 4000000
namespace My
open PySem L2
theorem call_rps {X : Cx} : CallR X (.builtin "repr") (fun xs H Q => ∃ x, xs = [.str x] ∧ (reprText x).length ≤ sizeLine ∧ Q (.str (reprText x)) H) := by
  intro pins s σ H xs us Q I r h
  obtain ⟨x, rfl, hz, q⟩ := h
  obtain ⟨u, rfl, ru⟩ := vals1 r
  obtain ⟨t, rfl⟩ := ru
  exact PySem.P.repr_of_str ⟨.str _, H, I.tok _, ⟨_, rfl⟩, q⟩ hz
section
variable {P : Program} {w : World} {K : PySem.W.Frag} {mg : Str → Option Value} {pB : Heap}
def spBentU : Sp := fun vs H Q E => ∃ m, m ≤ 10 ∧ spBent m vs H Q E
theorem ok_bentU {f : Addr} {fd : FuncData} (G : ∀ m, FnOk P w K mg pB CX0 (m + 3) f fd ["_law_held", "_law_it"] (spBent m)) : FnOk P w K mg pB CX0 13 f fd ["_law_held", "_law_it"] spBentU :=
  ⟨fun vs H Q E ⟨m, _, h⟩ => (G m).len vs H Q E h, fun A outer s H args us vs Q E hr e0 hb r ⟨m, hm, h⟩ => (G m).run A outer s H args us vs Q E (hr.mono (by omega)) e0 hb r h⟩
abbrev sLaw : Stmt := top 25
def lawN : List Str := ["_law_script", "_law_held", "_law_met", "_law_k", "_law_it", "_law_turn", "_law_due", "_law_one", "_law_other"]
theorem scLaw : FnScope ["_law_script", "_law_held", "_law_met", "_law_k", "_law_it", "_law_turn", "_law_due", "_law_one", "_law_other"] ["_law_script"] (defScope sLaw) := ⟨rfl, rfl, rfl, by decide +kernel, rfl, by decide +kernel, by decide +kernel⟩
def spLaw (K : PySem.W.Frag) : Sp := fun vs H Q _ => ∃ (a : Addr) (ns : List Int), vs = [.ref a] ∧ SqL K H a (ns.map V.int) ∧ ∀ H', Q (.bl true) H'
theorem op_of {R : R2} {ta tb : TE} {σ : L2.St} {H : Hp} {Q : VK} (h : ta σ H fun x H1 => tb σ H1 fun y H2 => R x y H2 Q) : tOp R ta tb σ H Q := h
theorem asg_1 {te : TE} {i : Nat} {D : Ends} {σ : L2.St} {H : Hp} (h : te σ H fun x H1 => D.nx (σ.set i (some x)) H1) : tAsg te (gName i) D σ H := h
theorem mem_cutV {xs : List V} {lo hi : Option Int} {v : V} (h : v ∈ cutV xs lo hi) : v ∈ xs := List.mem_of_mem_drop (List.mem_of_mem_take h)
/-- what the law keeps while it goes on -/
structure Hd (H : Hp) (d l lm : Addr) (ms : List Int) (n L : Int) (vs : List V) (ds : List PyData) : Prop where
  pen : Pen H d l ms n L
  mt : H lm = some (.lst vs)
  pr : Paired (fun v x => Rep H 12 v x ∧ isW 4 x = true ∧ szD x ≤ 40000) vs ds
  ne : l ≠ lm
theorem Hd.dr {H H' : Hp} {d l lm : Addr} {ms : List Int} {n L n' L' b : Int} {vs : List V} {ds : List PyData} (h : Hd H d l lm ms n L vs ds) (x : Dr H H' d l ms n n' L' b) : Hd H' d l lm ms n' L' vs ds :=
  ⟨x.pn, x.kp _ _ h.mt (L2.ne_of h.mt h.pen.dc (by intro z; cases z)), Paired.mapP h.pr fun _ _ z => ⟨x.rep h.pen z.1, z.2⟩, h.ne⟩
theorem Hd.same {H H' : Hp} {d l lm : Addr} {ms : List Int} {n L : Int} {vs : List V} {ds : List PyData} (h : Hd H d l lm ms n L vs ds) (s : Same H H') : Hd H' d l lm ms n L vs ds :=
  ⟨h.pen.same s, s _ _ h.mt, Paired.mapP h.pr fun _ _ z => ⟨z.1.same s, z.2⟩, h.ne⟩
theorem Hd.app {H : Hp} {d l lm : Addr} {ms : List Int} {n L : Int} {vs : List V} {ds : List PyData} {v : V} {x : PyData} (h : Hd H d l lm ms n L vs ds) (r : Rep H 12 v x) (hw : isW 4 x = true) (hz : szD x ≤ 40000) : Hd (upd H lm (.lst (vs ++ [v]))) d l lm ms n L (vs ++ [v]) (ds ++ [x]) :=
  ⟨⟨by rw [upd_ne (L2.ne_of h.pen.dc h.mt (by intro z; cases z))]; exact h.pen.dc, by rw [upd_ne h.ne]; exact h.pen.ls, h.pen.n0, h.pen.l0⟩, upd_same,
   pApp (Paired.mapP h.pr fun _ _ z => ⟨z.1.updL h.mt, z.2⟩) (.cons ⟨r.updL h.mt, hw, hz⟩ .nil), h.ne⟩
theorem Hd.get {H : Hp} {d l lm : Addr} {ms : List Int} {n L : Int} {vs : List V} {ds : List PyData} (h : Hd H d l lm ms n L vs ds) {v : V} (hv : v ∈ vs) : ∃ x, Rep H 12 v x ∧ isW 4 x = true ∧ szD x ≤ 40000 := by
  obtain ⟨i, hi⟩ := List.getElem?_of_mem hv
  obtain ⟨x, _, r⟩ := Paired.at h.pr hi
  exact ⟨x, r⟩
def zB : Nat → Nat
  | 0 => 5220
  | j + 1 => 2 * zB j + 20
theorem zB_le (j : Nat) (hj : j < 3) : zB j ≤ 20940 := by
  match j, hj with
  | 0, _ => decide
  | 1, _ => decide
  | 2, _ => decide
def bl2 (b c : Bool) : PyData := .list [.bool b, .bool c]
theorem bl2_ok (b c : Bool) : (bl2 b c).showable = true ∧ (bl2 b c).hasDict = false ∧ (bl2 b c).depth ≤ 60 ∧ (bl2 b c).shown.length ≤ sizeLine := by
  cases b <;> cases c <;> decide +kernel
theorem five {v : V} (h : v ∈ [V.int 0, .int 0, .int 0, .int 1, .int 2]) : ∃ i : Int, v = .int i ∧ 0 ≤ i ∧ i < 3 := by
  simp only [List.mem_cons, List.not_mem_nil, or_false] at h
  rcases h with rfl | rfl | rfl | rfl | rfl <;> exact ⟨_, rfl, by decide, by decide⟩
theorem ok_law {f fP fD fV fY fO fT fZ fA fC fS fN fE : Addr} {fd dP dD dV dY dO dT dZ dA dC dS dN dE : FuncData} (F : Fun K "law" "law" sLaw f fd)
    (GP : FnOk P w K mg pB CX0 1 fP dP ["_law_script"] (spPen K)) (mP : mg "_law_pen" = some (.ref fP)) (kP : PySem.W.keepIn K (.ref fP) = true) (bP : Binds K dP ["_law_script"] [])
    (GD : FnOk P w K mg pB CX0 1 fD dD ["_law_held", "_law_many"] spDraw) (mD : mg "_law_draw" = some (.ref fD)) (kD : PySem.W.keepIn K (.ref fD) = true) (bD : Binds K dD ["_law_held", "_law_many"] [])
    (GV : FnOk P w K mg pB CX0 8 fV dV ["_law_held", "_law_within"] (spWor 4)) (mV : mg "_law_worth" = some (.ref fV)) (kV : PySem.W.keepIn K (.ref fV) = true) (bV : Binds K dV ["_law_held", "_law_within"] [])
    (GY : FnOk P w K mg pB CX0 4 fY dY ["_law_held"] spWide) (mY : mg "_law_wide" = some (.ref fY)) (kY : PySem.W.keepIn K (.ref fY) = true) (bY : Binds K dY ["_law_held"] [])
    (GO : FnOk P w K mg pB CX0 2 fO dO ["_law_held"] spOdd) (mO : mg "_law_odd" = some (.ref fO)) (kO : PySem.W.keepIn K (.ref fO) = true) (bO : Binds K dO ["_law_held"] [])
    (GT : FnOk P w K mg pB CX0 6 fT dT ["_law_it", "_law_left"] (spWth 4)) (mT : mg "_law_is_worth" = some (.ref fT)) (kT : PySem.W.keepIn K (.ref fT) = true) (bT : Binds K dT ["_law_it", "_law_left"] [])
    (GZ : FnOk P w K mg pB CX0 1 fZ dZ ["_law_it"] spIsWord) (mZ : mg "_law_is_word" = some (.ref fZ)) (kZ : PySem.W.keepIn K (.ref fZ) = true) (bZ : Binds K dZ ["_law_it"] [])
    (GA : FnOk P w K mg pB CX0 1 fA dA ["thing"] spIsWord) (mA : mg "is_word" = some (.ref fA)) (kA : PySem.W.keepIn K (.ref fA) = true) (bA : Binds K dA ["thing"] [])
    (GC : FnOk P w K mg pB CX0 7 fC dC ["thing"] spIsWorth) (mC : mg "is_worth" = some (.ref fC)) (kC : PySem.W.keepIn K (.ref fC) = true) (bC : Binds K dC ["thing"] [])
    (GS : FnOk P w K mg pB CX0 8 fS dS ["worth"] (spShow 4)) (mS : mg "show_worth" = some (.ref fS)) (kS : PySem.W.keepIn K (.ref fS) = true) (bS : Binds K dS ["worth"] [])
    (GN : FnOk P w K mg pB CX0 6 fN dN ["_law_it"] (spShow 4)) (mN : mg "_law_shown" = some (.ref fN)) (kN : PySem.W.keepIn K (.ref fN) = true) (bN : Binds K dN ["_law_it"] [])
    (GE : FnOk P w K mg pB CX0 13 fE dE ["_law_held", "_law_it"] spBentU) (mE : mg "_law_bent" = some (.ref fE)) (kE : PySem.W.keepIn K (.ref fE) = true) (bE : Binds K dE ["_law_held", "_law_it"] [])
    (qS : KBinds K dS ["worth"] ["worth"] (fun us ws => us ++ ws) (fun us ws => us ++ ws)) (qA : KBinds K dA ["thing"] ["thing"] (fun us ws => us ++ ws) (fun us ws => us ++ ws)) (qC : KBinds K dC ["thing"] ["thing"] (fun us ws => us ++ ws) (fun us ws => us ++ ws))
    (mR : mg "range" = none) (mRp : mg "repr" = none) : FnG P w K mg pB 14 f fd ["_law_script"] (spLaw K) := by
  refine okG F scLaw (fun vs H Q E h => ?_) (fun cdv A outer s H vs Q E hg hr h => ?_)
  · obtain ⟨a, ns, rfl, _⟩ := h
    rfl
  · obtain ⟨a, ns, rfl, hS, k⟩ := h
    have nd := scLaw.nd
    have hr1 : Room 1 _ := hr.mono (by decide)
    have hr2 : Room 2 _ := hr.mono (by decide)
    have hr4 : Room 4 _ := hr.mono (by decide)
    have hr6 : Room 6 _ := hr.mono (by decide)
    have hr7 : Room 7 _ := hr.mono (by decide)
    have hr8 : Room 8 _ := hr.mono (by decide)
    have hr13 : Room 13 _ := hr.mono (by decide)
    refine ⟨_, pss_cons (ps_par (by rfl) nd (i := 1) (j := 2) rfl rfl (by decide) rfl rfl (pa_cons (pe_call GP hr1 rfl mP kP bP .nil pass0 (pa_cons (pv 0) pa_nil)) (pa_cons (pe_lst pa_nil) pa_nil)) (by rfl))
      (pss_cons (ps_for PassesOwn.never rfl (pi_range1 rfl mR (pa_cons pe_int pa_nil)) (pg_name (i := 3) nd rfl (Or.inl rfl)) (pss_cons (ps_set (i := 4) nd rfl (Or.inl rfl) (pe_ix ix_list (pe_lst (pa_cons (pe_call GV hr8 rfl mV kV bV .nil pass0 (pa_cons (pv 1) (pa_cons pe_int pa_nil))) (pa_cons (pe_call GY hr4 rfl mY kY bY .nil pass0 (pa_cons (pv 1) pa_nil)) (pa_cons (pe_call GO hr2 rfl mO kO bO .nil pass0 (pa_cons (pv 1) pa_nil)) pa_nil)))) (pe_ix ix_list (pe_lst (pa_cons pe_int (pa_cons pe_int (pa_cons pe_int (pa_cons pe_int (pa_cons pe_int pa_nil)))))) (pe_call GD hr1 rfl mD kD bD .nil pass0 (pa_cons (pv 1) (pa_cons pe_int pa_nil))) (fun _ _ => rfl)) (fun _ _ => rfl)))
        (pss_one (ps_for PassesOwn.never rfl (pi_range1 rfl mR (pa_cons pe_int pa_nil)) (pg_name (i := 5) nd rfl (Or.inl rfl)) (pss_cons (ps_set (i := 6) nd rfl (Or.inl rfl) (pe_call GT hr6 rfl mT kT bT .nil pass0 (pa_cons (pv 4) (pa_cons pe_int pa_nil))))
        (pss_cons (ps_if (pt_cmpR op_ne (pe_callB (call_reprL hg hr.units) (by rfl) mRp (by decide +kernel) (pa_cons (pe_lst (pa_cons (pe_call GA hr1 rfl mA kA bA .nil pass0 (pa_cons (pv 4) pa_nil)) (pa_cons (pe_call GC hr7 rfl mC kC bC .nil pass0 (pa_cons (pv 4) pa_nil)) pa_nil))) pa_nil)) (pe_callB (call_reprL hg hr.units) (by rfl) mRp (by decide +kernel) (pa_cons (pe_lst (pa_cons (pe_call GZ hr1 rfl mZ kZ bZ .nil pass0 (pa_cons (pv 4) pa_nil)) (pa_cons (pv 6) pa_nil))) pa_nil)) (nomark _)) (pss_one (ps_ret pe_bl)) pss_nil)
        (pss_cons (ps_if (pt_val (pv 6)) (pss_cons (ps_if (PW.pt (pw_or (pt_cmpR op_ne (pe_callB call_rps (by rfl) mRp (by decide +kernel) (pa_cons (pe_call GS hr8 rfl mS kS bS .nil pass0 (pa_cons (pv 4) pa_nil)) pa_nil)) (pe_callB call_rps (by rfl) mRp (by decide +kernel) (pa_cons (pe_call GN hr6 rfl mN kN bN .nil pass0 (pa_cons (pv 4) pa_nil)) pa_nil)) (nomark _))
            (pw_or1 (pt_cmpR op_ne (pe_kw0 GS hr8 rfl mS kS qS pass0 (pk_cons (pv 4) pk_nil)) (pe_call GN hr6 rfl mN kN bN .nil pass0 (pa_cons (pv 4) pa_nil)) (nomark _))))) (pss_one (ps_ret pe_bl)) pss_nil)
          (pss_one (ps_expr (pe_bm PySem.F.plainAttrs_list PySem.F.slot_list_append PySem.F.type_list_append mt_append (pv 2) (pa_cons (pv 4) pa_nil))))) pss_nil)
        (pss_one (ps_set (i := 4) nd rfl (Or.inl rfl) (pe_call GE hr13 rfl mE kE bE .nil pass0 (pa_cons (pv 1) (pa_cons (pv 4) pa_nil))))))))))))
      (pss_cons (ps_for PassesOwn.never rfl (pi_list (pe_slice sl_list (pv 2) po_none (po_some pe_int))) (pg_name (i := 7) nd rfl (Or.inl rfl))
        (pss_one (ps_for PassesOwn.never rfl (pi_list (pe_slice sl_list (pv 2) (po_some (pe_un un_neg pe_int)) po_none)) (pg_name (i := 8) nd rfl (Or.inl rfl)) (pss_one (ps_if (pt_cmpR op_ne (pe_cmpR op_eq (pe_call GS hr8 rfl mS kS bS .nil pass0 (pa_cons (pv 7) pa_nil)) (pe_call GS hr8 rfl mS kS bS .nil pass0 (pa_cons (pv 8) pa_nil)) (nomark _)) (pe_cmpR (op_eqD hr.units) (pv 7) (pv 8) (nomark _)) (nomark _)) (pss_one (ps_ret pe_bl)) pss_nil)))))
      (pss_one (ps_ret (pe_and (pe_kw0 GA hr1 rfl mA kA qA pass0 (pk_cons pe_str pk_nil)) (pe_one (pe_kw0 GC hr7 rfl mC kC qC pass0 (pk_cons pe_non pk_nil)))))))), ?_⟩
    have ebW : bW 4 = 5052630 := by decide
    have ewS : wS 4 = 5220 := by decide
    refine par_of (cons_of (call_of ⟨_, rfl, a, ns, rfl, hS, fun d l ms H1 hd hl s1 p1 => cons_of (lst_of ⟨by show 0 ≤ sizeLine; decide, fun lm hlm => ⟨_, _, rfl, ?_⟩⟩)⟩))
    have s2 : Same H1 (upd H1 lm (.lst [])) := Same.new (Same.refl _) hlm
    have hold0 : Hd (upd H1 lm (.lst [])) d l lm ms 0 0 [] [] := ⟨p1.same s2, upd_same, .nil, ne_of_none p1.ls hlm⟩
    refine ⟨20, rfl, by decide, by decide, for_range (lo := 0) (n := 20) (fun n σ H2 => ∃ (nn L : Int) (vs : List V) (ds : List PyData) (x3 x4 x5 x6 x7 x8 : Option V),
      σ = [some (.ref a), some (.ref d), some (.ref lm), x3, x4, x5, x6, x7, x8] ∧ Hd H2 d l lm ms nn L vs ds ∧ nn ≤ 6000000 * (n : Int) ∧ vs.length ≤ 3 * n) ?_ ?_ ?_⟩
    · exact ⟨0, 0, [], [], _, _, _, _, _, _, rfl, hold0, by decide, by decide⟩
    · rintro n σ H2 hn ⟨nn, L, vs, ds, x3, x4, x5, x6, x7, x8, rfl, hold, hb, hvl⟩
      rw [Int.zero_add]
      refine asg_n (op_of (lst_of (cons_of (call_of ⟨_, rfl, d, l, ms, nn, L, rfl, hold.pen, by rw [ebW]; omega, fun v1 t1 n1 L1 J1 r1 z1 _ y1 => ?_⟩))))
      have h1 := hold.dr y1
      have b1 := y1.hi
      rw [ebW] at b1
      refine cons_of (call_of ⟨_, rfl, d, l, ms, n1, L1, rfl, h1.pen, by omega, fun v2 t2 n2 L2 J2 r2 z2 y2 => ?_⟩)
      have h2 := h1.dr y2
      have b2 := y2.hi
      refine cons_of (call_of ⟨_, rfl, d, l, ms, n2, L2, rfl, h2.pen, by omega, fun v3 t3 n3 L3 J3 r3 z3 y3 => ⟨by show 3 ≤ sizeLine; decide, fun l1 hl1 => ?_⟩⟩)
      have h3 := h2.dr y3
      have b3 := y3.hi
      have u1 := Same.new (o := .lst [v1, v2, v3]) (Same.refl J3) hl1
      refine op_of (lst_of ⟨by show 5 ≤ sizeLine; decide, fun l2 hl2 => ?_⟩)
      have u2 := Same.new (o := .lst [.int 0, .int 0, .int 0, .int 1, .int 2]) (Same.refl _) hl2
      have h4 := (h3.same u1).same u2
      refine rd_dr (m := 5) rfl (fun _ h => h) h4.pen (by omega) (by decide) (by decide) fun r n5 L5 J5 q0 q1 y5 => ?_
      have h5 := h4.dr y5
      have b5 := y5.hi
      have e2 := y5.kp _ _ (upd_same (a := l2) (o := .lst [.int 0, .int 0, .int 0, .int 1, .int 2])) (ne_of upd_same h4.pen.dc (by intro z; cases z))
      have e1' := u2 _ _ (upd_same (H := J3) (a := l1) (o := .lst [v1, v2, v3]))
      have e1 := y5.kp _ _ e1' (ne_of e1' h4.pen.dc (by intro z; cases z))
      obtain ⟨w, hw, atw, _⟩ := atI_of (xs := [V.int 0, .int 0, .int 0, .int 1, .int 2]) q0 q1
      obtain ⟨i5, rfl, g0, g1⟩ := five hw
      obtain ⟨v, hv, atv, _⟩ := atI_of (xs := [v1, v2, v3]) g0 g1
      refine ⟨l2, _, _, _, rfl, rfl, SqL.of e2, atw, l1, _, _, v, rfl, rfl, SqL.of e1, atv, ?_⟩
      have key : ∃ x, Rep J5 6 v x ∧ szD x ≤ zB 0 := by
        have up : ∀ {m : Nat} {u : V} {t : PyData}, m ≤ 6 → Rep J3 m u t → Rep J5 6 u t := fun hm z => (y5.rep h4.pen ((z.same u1).same u2)).mono hm
        simp only [List.mem_cons, List.not_mem_nil, or_false] at hv
        rcases hv with rfl | rfl | rfl
        · exact ⟨t1, up (by decide) (y3.rep h2.pen (y2.rep h1.pen r1)), by show _ ≤ 5220; omega⟩
        · exact ⟨t2, up (by decide) (y3.rep h2.pen r2), by show _ ≤ 5220; omega⟩
        · exact ⟨t3, up (by decide) r3, by show _ ≤ 5220; omega⟩
      obtain ⟨x0, hR0, hz0⟩ := key
      refine ⟨3, rfl, by decide, by decide, for_range (lo := 0) (n := 3) (fun j σ H3 => ∃ (nn L : Int) (vs : List V) (ds : List PyData) (v : V) (x : PyData) (x3 x5 x6 x7 x8 : Option V),
        σ = [some (.ref a), some (.ref d), some (.ref lm), x3, some v, x5, x6, x7, x8] ∧ Hd H3 d l lm ms nn L vs ds ∧ Rep H3 (6 + 2 * j) v x ∧ szD x ≤ zB j ∧ nn ≤ 6000000 * (n : Int) + 5100000 + 200 * (j : Int) ∧ vs.length ≤ 3 * n + j) ?_ ?_ ?_⟩
      · exact ⟨n5, L5, vs, ds, v, x0, _, _, _, _, _, rfl, h5, hR0, hz0, by omega, by omega⟩
      · rintro j σ H3 hj ⟨nn, L, vs, ds, v, x, x3, x5, x6, x7, x8, rfl, hold, hR, hz, hb, hvl⟩
        rw [Int.zero_add]
        have hzB := zB_le j hj
        have hz1 : szD x ≤ 1000000 := by omega
        have hz4 : szD x ≤ 40000 := by omega
        refine asg_n (call_of ⟨_, rfl, 6 + 2 * j, v, x, rfl, hR, hz1, fun J1 s1 => ?_⟩)
        refine ⟨_, rfl, _, v, x, rfl, hR.same s1, hz1, fun J2 s2 => ?_⟩
        refine ⟨_, rfl, _, v, x, rfl, (hR.same s1).same s2, hz1, fun J3 s3 => ⟨by show 2 ≤ sizeLine; decide, fun l1 hl1 => ?_⟩⟩
        have o1 := bl2_ok (wdD x) (isW 4 x)
        refine ⟨l1, bl2 (wdD x) (isW 4 x), rfl, .lst (SqL.of upd_same) (.cons (.bl _) (.cons (.bl _) .nil)), o1.1, o1.2.1, o1.2.2.1, o1.2.2.2, ?_⟩
        have s4 := (s1.trans (s2.trans s3)).trans (Same.new (o := .lst [.bl (wdD x), .bl (isW 4 x)]) (Same.refl J3) hl1)
        refine ⟨_, rfl, _, v, x, rfl, hR.same s4, hz1, fun J5 s5 => ⟨_, rfl, by show 2 ≤ sizeLine; decide, fun l2 hl2 => ?_⟩⟩
        refine ⟨l2, bl2 (wdD x) (isW 4 x), rfl, .lst (SqL.of upd_same) (.cons (.bl _) (.cons (.bl _) .nil)), o1.1, o1.2.1, o1.2.2.1, o1.2.2.2, rfl, _, rfl, iteB0 (by simp) ?_⟩
        have s6 := (s4.trans s5).trans (Same.new (o := .lst [.bl (wdD x), .bl (isW 4 x)]) (Same.refl J5) hl2)
        refine ⟨_, rfl, _, rfl, ?_⟩
        have h6 := hold.same s6
        have R6 := hR.same s6
        have bj : bB (6 + 2 * j) = 10 * (((6 + 2 * j : Nat) : Int) + 1) := rfl
        rcases Bool.eq_false_or_eq_true (isW 4 x) with hw | hw
        · have hrp := shW_repr hw hz4
          refine iteB1 hw ⟨_, rfl, _, v, x, rfl, R6, hw, hz4, fun J7 s7 => ⟨_, rfl, hrp, _, rfl, _, v, x, rfl, R6.same s7, hw, hz4, fun J8 s8 => ⟨_, rfl, hrp, rfl, _, rfl, iteB0 (by simp) ?_⟩⟩⟩
          refine ⟨_, rfl, _, v, x, rfl, (R6.same s7).same s8, hw, hz4, fun J9 s9 => ⟨_, rfl, _, v, x, rfl, ((R6.same s7).same s8).same s9, hw, hz4, fun JA sA => ⟨rfl, _, rfl, iteB0 (by simp) ?_⟩⟩⟩
          have sB := s7.trans (s8.trans (s9.trans sA))
          have hB := h6.same sB
          have RB := R6.same sB
          refine ⟨_, rfl, .inl ⟨rfl, _, SqL.of hB.mt⟩, _, rfl, lm, _, _, rfl, rfl, hB.mt, Nat.lt_of_le_of_lt (show vs.length ≤ 1000 by omega) (by decide), ?_⟩
          have hC := hB.app (RB.mono (by omega)) hw hz4
          have RC := RB.updL (zs := vs ++ [v]) hB.mt
          refine nxt_r (asg_1 (call_of ⟨_, rfl, _, rfl, 6 + 2 * j, by omega, d, l, ms, nn, L, v, x, rfl, hC.pen, by omega, RC, hz1, fun v' x' n' L' H' hr' hs' xd => ?_⟩))
          have bd := xd.hi
          exact ⟨n', L', _, _, v', x', _, _, _, _, _, rfl, hC.dr xd, hr', by rw [zB]; omega, by omega, by rw [List.length_append]; show _ + 1 ≤ _; omega⟩
        · refine iteB0 hw (nxt_r (asg_1 (call_of ⟨_, rfl, _, rfl, 6 + 2 * j, by omega, d, l, ms, nn, L, v, x, rfl, h6.pen, by omega, R6, hz1, fun v' x' n' L' H' hr' hs' xd => ?_⟩)))
          have bd := xd.hi
          exact ⟨n', L', _, _, v', x', _, _, _, _, _, rfl, h6.dr xd, hr', by rw [zB]; omega, by omega, by omega⟩
      · rintro σ H3 ⟨nn, L, vs, ds, v, x, x3, x5, x6, x7, x8, rfl, hold, hR, hz, hb, hvl⟩
        exact ⟨nn, L, vs, ds, _, _, _, _, _, _, rfl, hold, by omega, by omega⟩
    · rintro σ H2 ⟨nn, L, vs, ds, x3, x4, x5, x6, x7, x8, rfl, hold, hb, hvl⟩
      refine nx_of ?_
      refine ⟨_, rfl, _, rfl, lm, vs, rfl, SqL.of hold.mt, fun p hp => ⟨p, rfl, ⟨_, SqL.of upd_same⟩, for_list (xs := cutV vs none (some 12)) (fun i σ H3 => ∃ (x3 x4 x5 x6 x7 x8 : Option V),
        σ = [some (.ref a), some (.ref d), some (.ref lm), x3, x4, x5, x6, x7, x8] ∧ Hd H3 d l lm ms nn L vs ds ∧ H3 p = some (.lst (cutV vs none (some 12)))) ?_ ?_ ?_ ?_⟩⟩
      · exact ⟨_, _, _, _, _, _, rfl, hold.same (Same.new (Same.refl _) hp), upd_same⟩
      · rintro i σ H3 hi ⟨x3, x4, x5, x6, x7, x8, rfl, h3, c3⟩
        exact SqL.of c3
      · rintro i v σ H3 hv ⟨x3, x4, x5, x6, x7, x8, rfl, h3, c3⟩
        have hv' := mem_cutV (List.mem_of_getElem? hv)
        refine ⟨_, rfl, _, rfl, _, rfl, lm, vs, rfl, SqL.of h3.mt, fun q hq => ⟨q, rfl, ⟨_, SqL.of upd_same⟩, for_list (xs := cutV vs (some (-12)) none) (fun i σ H4 => ∃ (x3 x4 x5 x6 x8 : Option V),
          σ = [some (.ref a), some (.ref d), some (.ref lm), x3, x4, x5, x6, some v, x8] ∧ Hd H4 d l lm ms nn L vs ds ∧ H4 p = some (.lst (cutV vs none (some 12))) ∧ H4 q = some (.lst (cutV vs (some (-12)) none))) ?_ ?_ ?_ ?_⟩⟩
        · have sq := Same.new (o := .lst (cutV vs (some (-12)) none)) (Same.refl _) hq
          exact ⟨_, _, _, _, _, rfl, h3.same sq, sq _ _ c3, upd_same⟩
        · rintro i σ H4 hi ⟨x3, x4, x5, x6, x8, rfl, h4, c4, e4⟩
          exact SqL.of e4
        · rintro i u σ H4 hu ⟨x3, x4, x5, x6, x8, rfl, h4, c4, e4⟩
          have hu' := mem_cutV (List.mem_of_getElem? hu)
          obtain ⟨x, rx, wx, zx⟩ := h4.get hv'
          obtain ⟨y, ry, wy, zy⟩ := h4.get hu'
          refine ⟨_, rfl, _, v, x, rfl, rx, wx, zx, fun J1 s1 => ⟨_, rfl, _, u, y, rfl, ry.same s1, wy, zy, fun J2 s2 => ⟨rfl, ?_⟩⟩⟩
          have s3 := s1.trans s2
          refine ⟨_, rfl, _, rfl, x, y, dp_w 4 wx (rx.same s3), dp_w 4 wy (ry.same s3), shaped_w wx (by decide), shaped_w wy (by decide), rfl, _, rfl, iteB0 ?_ ?_⟩
          · have h := eqv_w 4 wx wy
            by_cases e : x = y
            · subst e
              rw [h.mpr rfl]; simp
            · have e1 : PyData.eqv x y = false := by
                rcases Bool.eq_false_or_eq_true (PyData.eqv x y) with hh | hh
                · exact absurd (h.mp hh) e
                · exact hh
              have e2 : ¬ shW 4 x = shW 4 y := fun z => e (shW_inj wx wy z)
              rw [e1]; simp [e2]
          · exact ⟨_, _, _, _, _, rfl, h4.same s3, s3 _ _ c4, s3 _ _ e4⟩
        · rintro σ H4 ⟨x3, x4, x5, x6, x8, rfl, h4, c4, e4⟩
          exact ⟨_, _, _, _, _, _, rfl, h4, c4⟩
      · rintro σ H3 ⟨x3, x4, x5, x6, x7, x8, rfl, h3, c3⟩
        refine ⟨0, .str "a", .str "a", rfl, rep_s _, by decide +kernel, fun J1 s1 => ⟨_, rfl, iteB1 (by decide +kernel) ⟨0, .non, .none, rfl, rep_n, by decide +kernel, fun J2 s2 => ?_⟩⟩⟩
        have e : isW 4 .none = true := by decide +kernel
        rw [e]
        exact k J2
end
end My

set_option Elab.async false
set_option linter.all false
set_option maxRecDepth 100000
set_option maxHeartbeats 4000000
namespace My
open PySem L2
theorem kb1 {K : PySem.W.Frag} {x qual y : Str} {st : Stmt} {f : Addr} {fd : FuncData} (F : Fun K x qual st f fd)
    (h1 : ∀ (kV doc pm : Value) (an : Option Addr) (cdv ct u : Value), bindArgs (PySem.W.fnOf x qual (defArgs st) (defBody st) (defScope st) .none kV doc pm an cdv ct) ⟨[u], []⟩ = pure [(y, u)])
    (h2 : ∀ (kV doc pm : Value) (an : Option Addr) (cdv ct u : Value), bindArgs (PySem.W.fnOf x qual (defArgs st) (defBody st) (defScope st) .none kV doc pm an cdv ct) ⟨[], [(y, u)]⟩ = pure [(y, u)]) : KBinds K fd [y] [y] (fun us ws => us ++ ws) (fun us ws => us ++ ws) := by
  obtain ⟨oc, od, kV, doc, pm, an, cdv, ct, osl, rfl, lk, hcd⟩ := F.ex
  refine ⟨fun s us ws _ hl => ?_, fun r1 r2 => r1.append r2⟩
  match us, ws, hl with
  | [], [u], _ => exact .of_eq (h2 kV doc pm an cdv ct u)
  | [u], [], _ => exact .of_eq (h1 kV doc pm an cdv ct u)
  | [], [], h => exact absurd h (by simp)
  | [], _ :: _ :: _, h => exact absurd h (by simp)
  | [_], _ :: _, h => exact absurd h (by simp)
  | _ :: _ :: _, _, h => exact absurd h (by simp)

theorem all_mk {l : PySem.W.OpenLaw} {w : World} {K : PySem.W.Frag} {h : Heap} {mg : Str → Option Value} {fa gisw gbtw gisv gwth gshw gbrk gpen gdrw gpck gwrd gwor gfrm glwd glwt gshn godd gbnt gwid glaw : Addr} (X : K.In h) (G : h.Ns mainGlobals mg) (hfa : mg "law" = some (.ref fa))
    {odisw anisw odbtw anbtw odisv anisv odwth anwth odshw anshw odbrk anbrk odpen anpen oddrw andrw odpck anpck odwrd anwrd odwor anwor odfrm anfrm odlwd anlwd odlwt anlwt odshn anshn ododd anodd odbnt anbnt odwid anwid odlaw anlaw : Option Addr} {slisw slbtw slisv slwth slshw slbrk slpen sldrw slpck slwrd slwor slfrm sllwd sllwt slshn slodd slbnt slwid sllaw : Array (Option Value)} {ocisw kVisw dcisw pmisw cdisw ctisw ocbtw kVbtw dcbtw pmbtw cdbtw ctbtw ocisv kVisv dcisv pmisv cdisv ctisv ocwth kVwth dcwth pmwth cdwth ctwth ocshw kVshw dcshw pmshw cdshw ctshw ocbrk kVbrk dcbrk pmbrk cdbrk ctbrk ocpen kVpen dcpen pmpen cdpen ctpen ocdrw kVdrw dcdrw pmdrw cddrw ctdrw ocpck kVpck dcpck pmpck cdpck ctpck ocwrd kVwrd dcwrd pmwrd cdwrd ctwrd ocwor kVwor dcwor pmwor cdwor ctwor ocfrm kVfrm dcfrm pmfrm cdfrm ctfrm oclwd kVlwd dclwd pmlwd cdlwd ctlwd oclwt kVlwt dclwt pmlwt cdlwt ctlwt ocshn kVshn dcshn pmshn cdshn ctshn ocodd kVodd dcodd pmodd cdodd ctodd ocbnt kVbnt dcbnt pmbnt cdbnt ctbnt ocwid kVwid dcwid pmwid cdwid ctwid oclaw kVlaw dclaw pmlaw cdlaw ctlaw : Value} {tkMOST_LETTERS tkFARTHEST tkMOST_WORTHS tkWORTH_LEVELS : Tok}
    (aisw : PySem.W.nsIn K mainGlobals "is_word" = some (some (.ref gisw))) (lisw : K.lookup gisw = some ⟨ocisw, odisw, .func (PySem.W.fnOf "is_word" "is_word" (defArgs sIsWord) (defBody sIsWord) (defScope sIsWord) .none kVisw dcisw pmisw anisw cdisw ctisw), slisw⟩) (cisw : PySem.W.codeIn K cdisw "is_word" = true) (kisw : PySem.W.keepIn K (.ref gisw) = true)
    (abtw : PySem.W.nsIn K mainGlobals "is_between" = some (some (.ref gbtw))) (lbtw : K.lookup gbtw = some ⟨ocbtw, odbtw, .func (PySem.W.fnOf "is_between" "is_between" (defArgs sBtw) (defBody sBtw) (defScope sBtw) .none kVbtw dcbtw pmbtw anbtw cdbtw ctbtw), slbtw⟩) (cbtw : PySem.W.codeIn K cdbtw "is_between" = true) (kbtw : PySem.W.keepIn K (.ref gbtw) = true)
    (aisv : PySem.W.nsIn K mainGlobals "is_worth" = some (some (.ref gisv))) (lisv : K.lookup gisv = some ⟨ocisv, odisv, .func (PySem.W.fnOf "is_worth" "is_worth" (defArgs sIsWorth) (defBody sIsWorth) (defScope sIsWorth) .none kVisv dcisv pmisv anisv cdisv ctisv), slisv⟩) (cisv : PySem.W.codeIn K cdisv "is_worth" = true) (kisv : PySem.W.keepIn K (.ref gisv) = true)
    (awth : PySem.W.nsIn K mainGlobals "is_worth_within" = some (some (.ref gwth))) (lwth : K.lookup gwth = some ⟨ocwth, odwth, .func (PySem.W.fnOf "is_worth_within" "is_worth_within" (defArgs sWth) (defBody sWth) (defScope sWth) .none kVwth dcwth pmwth anwth cdwth ctwth), slwth⟩) (cwth : PySem.W.codeIn K cdwth "is_worth_within" = true) (kwth : PySem.W.keepIn K (.ref gwth) = true)
    (ashw : PySem.W.nsIn K mainGlobals "show_worth" = some (some (.ref gshw))) (lshw : K.lookup gshw = some ⟨ocshw, odshw, .func (PySem.W.fnOf "show_worth" "show_worth" (defArgs sShow) (defBody sShow) (defScope sShow) .none kVshw dcshw pmshw anshw cdshw ctshw), slshw⟩) (cshw : PySem.W.codeIn K cdshw "show_worth" = true) (kshw : PySem.W.keepIn K (.ref gshw) = true)
    (abrk : PySem.W.nsIn K mainGlobals "bracketed" = some (some (.ref gbrk))) (lbrk : K.lookup gbrk = some ⟨ocbrk, odbrk, .func (PySem.W.fnOf "bracketed" "bracketed" (defArgs sBr) (defBody sBr) (defScope sBr) .none kVbrk dcbrk pmbrk anbrk cdbrk ctbrk), slbrk⟩) (cbrk : PySem.W.codeIn K cdbrk "bracketed" = true) (kbrk : PySem.W.keepIn K (.ref gbrk) = true)
    (apen : PySem.W.nsIn K mainGlobals "_law_pen" = some (some (.ref gpen))) (lpen : K.lookup gpen = some ⟨ocpen, odpen, .func (PySem.W.fnOf "_law_pen" "_law_pen" (defArgs sPen) (defBody sPen) (defScope sPen) .none kVpen dcpen pmpen anpen cdpen ctpen), slpen⟩) (cpen : PySem.W.codeIn K cdpen "_law_pen" = true) (kpen : PySem.W.keepIn K (.ref gpen) = true)
    (adrw : PySem.W.nsIn K mainGlobals "_law_draw" = some (some (.ref gdrw))) (ldrw : K.lookup gdrw = some ⟨ocdrw, oddrw, .func (PySem.W.fnOf "_law_draw" "_law_draw" (defArgs sDraw) (defBody sDraw) (defScope sDraw) .none kVdrw dcdrw pmdrw andrw cddrw ctdrw), sldrw⟩) (cdrw : PySem.W.codeIn K cddrw "_law_draw" = true) (kdrw : PySem.W.keepIn K (.ref gdrw) = true)
    (apck : PySem.W.nsIn K mainGlobals "_law_pick" = some (some (.ref gpck))) (lpck : K.lookup gpck = some ⟨ocpck, odpck, .func (PySem.W.fnOf "_law_pick" "_law_pick" (defArgs sPick) (defBody sPick) (defScope sPick) .none kVpck dcpck pmpck anpck cdpck ctpck), slpck⟩) (cpck : PySem.W.codeIn K cdpck "_law_pick" = true) (kpck : PySem.W.keepIn K (.ref gpck) = true)
    (awrd : PySem.W.nsIn K mainGlobals "_law_word" = some (some (.ref gwrd))) (lwrd : K.lookup gwrd = some ⟨ocwrd, odwrd, .func (PySem.W.fnOf "_law_word" "_law_word" (defArgs sWord) (defBody sWord) (defScope sWord) .none kVwrd dcwrd pmwrd anwrd cdwrd ctwrd), slwrd⟩) (cwrd : PySem.W.codeIn K cdwrd "_law_word" = true) (kwrd : PySem.W.keepIn K (.ref gwrd) = true)
    (awor : PySem.W.nsIn K mainGlobals "_law_worth" = some (some (.ref gwor))) (lwor : K.lookup gwor = some ⟨ocwor, odwor, .func (PySem.W.fnOf "_law_worth" "_law_worth" (defArgs sWor) (defBody sWor) (defScope sWor) .none kVwor dcwor pmwor anwor cdwor ctwor), slwor⟩) (cwor : PySem.W.codeIn K cdwor "_law_worth" = true) (kwor : PySem.W.keepIn K (.ref gwor) = true)
    (afrm : PySem.W.nsIn K mainGlobals "_law_is_from" = some (some (.ref gfrm))) (lfrm : K.lookup gfrm = some ⟨ocfrm, odfrm, .func (PySem.W.fnOf "_law_is_from" "_law_is_from" (defArgs sFrom) (defBody sFrom) (defScope sFrom) .none kVfrm dcfrm pmfrm anfrm cdfrm ctfrm), slfrm⟩) (cfrm : PySem.W.codeIn K cdfrm "_law_is_from" = true) (kfrm : PySem.W.keepIn K (.ref gfrm) = true)
    (alwd : PySem.W.nsIn K mainGlobals "_law_is_word" = some (some (.ref glwd))) (llwd : K.lookup glwd = some ⟨oclwd, odlwd, .func (PySem.W.fnOf "_law_is_word" "_law_is_word" (defArgs sLWord) (defBody sLWord) (defScope sLWord) .none kVlwd dclwd pmlwd anlwd cdlwd ctlwd), sllwd⟩) (clwd : PySem.W.codeIn K cdlwd "_law_is_word" = true) (klwd : PySem.W.keepIn K (.ref glwd) = true)
    (alwt : PySem.W.nsIn K mainGlobals "_law_is_worth" = some (some (.ref glwt))) (llwt : K.lookup glwt = some ⟨oclwt, odlwt, .func (PySem.W.fnOf "_law_is_worth" "_law_is_worth" (defArgs sLWorth) (defBody sLWorth) (defScope sLWorth) .none kVlwt dclwt pmlwt anlwt cdlwt ctlwt), sllwt⟩) (clwt : PySem.W.codeIn K cdlwt "_law_is_worth" = true) (klwt : PySem.W.keepIn K (.ref glwt) = true)
    (ashn : PySem.W.nsIn K mainGlobals "_law_shown" = some (some (.ref gshn))) (lshn : K.lookup gshn = some ⟨ocshn, odshn, .func (PySem.W.fnOf "_law_shown" "_law_shown" (defArgs sShown) (defBody sShown) (defScope sShown) .none kVshn dcshn pmshn anshn cdshn ctshn), slshn⟩) (cshn : PySem.W.codeIn K cdshn "_law_shown" = true) (kshn : PySem.W.keepIn K (.ref gshn) = true)
    (aodd : PySem.W.nsIn K mainGlobals "_law_odd" = some (some (.ref godd))) (lodd : K.lookup godd = some ⟨ocodd, ododd, .func (PySem.W.fnOf "_law_odd" "_law_odd" (defArgs sOdd) (defBody sOdd) (defScope sOdd) .none kVodd dcodd pmodd anodd cdodd ctodd), slodd⟩) (codd : PySem.W.codeIn K cdodd "_law_odd" = true) (kodd : PySem.W.keepIn K (.ref godd) = true)
    (abnt : PySem.W.nsIn K mainGlobals "_law_bent" = some (some (.ref gbnt))) (lbnt : K.lookup gbnt = some ⟨ocbnt, odbnt, .func (PySem.W.fnOf "_law_bent" "_law_bent" (defArgs sBent) (defBody sBent) (defScope sBent) .none kVbnt dcbnt pmbnt anbnt cdbnt ctbnt), slbnt⟩) (cbnt : PySem.W.codeIn K cdbnt "_law_bent" = true) (kbnt : PySem.W.keepIn K (.ref gbnt) = true)
    (awid : PySem.W.nsIn K mainGlobals "_law_wide" = some (some (.ref gwid))) (lwid : K.lookup gwid = some ⟨ocwid, odwid, .func (PySem.W.fnOf "_law_wide" "_law_wide" (defArgs sWide) (defBody sWide) (defScope sWide) .none kVwid dcwid pmwid anwid cdwid ctwid), slwid⟩) (cwid : PySem.W.codeIn K cdwid "_law_wide" = true) (kwid : PySem.W.keepIn K (.ref gwid) = true)
    (alaw : PySem.W.nsIn K mainGlobals "law" = some (some (.ref glaw))) (llaw : K.lookup glaw = some ⟨oclaw, odlaw, .func (PySem.W.fnOf "law" "law" (defArgs sLaw) (defBody sLaw) (defScope sLaw) .none kVlaw dclaw pmlaw anlaw cdlaw ctlaw), sllaw⟩) (claw : PySem.W.codeIn K cdlaw "law" = true) (klaw : PySem.W.keepIn K (.ref glaw) = true)
    (zisinstance : PySem.W.nsIn K mainGlobals "isinstance" = some none)
    (zstr : PySem.W.nsIn K mainGlobals "str" = some none)
    (zint : PySem.W.nsIn K mainGlobals "int" = some none)
    (zbool : PySem.W.nsIn K mainGlobals "bool" = some none)
    (ztuple : PySem.W.nsIn K mainGlobals "tuple" = some none)
    (zlen : PySem.W.nsIn K mainGlobals "len" = some none)
    (zall : PySem.W.nsIn K mainGlobals "all" = some none)
    (zlist : PySem.W.nsIn K mainGlobals "list" = some none)
    (zrange : PySem.W.nsIn K mainGlobals "range" = some none)
    (zrepr : PySem.W.nsIn K mainGlobals "repr" = some none)
    (yMOST_LETTERS : PySem.W.nsIn K mainGlobals "MOST_LETTERS" = some (some (.int 8 tkMOST_LETTERS)))
    (yFARTHEST : PySem.W.nsIn K mainGlobals "FARTHEST" = some (some (.int 1000000000 tkFARTHEST)))
    (yMOST_WORTHS : PySem.W.nsIn K mainGlobals "MOST_WORTHS" = some (some (.int 20 tkMOST_WORTHS)))
    (yWORTH_LEVELS : PySem.W.nsIn K mainGlobals "WORTH_LEVELS" = some (some (.int 4 tkWORTH_LEVELS))) :
    ∃ fd : FuncData, (∀ (s : Shared) (v : Value), BindsTo s fd ⟨[v], []⟩ [("_law_script", v)]) ∧ ∀ base : Heap, K.In base → base.Ns mainGlobals mg → FnG l.prog w K mg base 14 fa fd ["_law_script"] (spLaw K) := by
  have e := hfa.symm.trans (PySem.W.mg_of X G alaw)
  cases e
  have Fisw := fun_mk (st := sIsWord) lisw cisw kisw
  have misw := PySem.W.mg_of X G aisw
  have bisw := Fisw.binds (ps := ["thing"]) fun _ _ _ _ _ _ us hl => match us, hl with | [_], _ => rfl
  have Fbtw := fun_mk (st := sBtw) lbtw cbtw kbtw
  have mbtw := PySem.W.mg_of X G abtw
  have bbtw := Fbtw.binds (ps := ["thing", "least", "most"]) fun _ _ _ _ _ _ us hl => match us, hl with | [_, _, _], _ => rfl
  have Fisv := fun_mk (st := sIsWorth) lisv cisv kisv
  have misv := PySem.W.mg_of X G aisv
  have bisv := Fisv.binds (ps := ["thing"]) fun _ _ _ _ _ _ us hl => match us, hl with | [_], _ => rfl
  have Fwth := fun_mk (st := sWth) lwth cwth kwth
  have mwth := PySem.W.mg_of X G awth
  have bwth := Fwth.binds (ps := ["thing", "levels"]) fun _ _ _ _ _ _ us hl => match us, hl with | [_, _], _ => rfl
  have Fshw := fun_mk (st := sShow) lshw cshw kshw
  have mshw := PySem.W.mg_of X G ashw
  have bshw := Fshw.binds (ps := ["worth"]) fun _ _ _ _ _ _ us hl => match us, hl with | [_], _ => rfl
  have Fbrk := fun_mk (st := sBr) lbrk cbrk kbrk
  have mbrk := PySem.W.mg_of X G abrk
  have bbrk := Fbrk.binds (ps := ["opening", "texts", "closing"]) fun _ _ _ _ _ _ us hl => match us, hl with | [_, _, _], _ => rfl
  have Fpen := fun_mk (st := sPen) lpen cpen kpen
  have mpen := PySem.W.mg_of X G apen
  have bpen := Fpen.binds (ps := ["_law_script"]) fun _ _ _ _ _ _ us hl => match us, hl with | [_], _ => rfl
  have Fdrw := fun_mk (st := sDraw) ldrw cdrw kdrw
  have mdrw := PySem.W.mg_of X G adrw
  have bdrw := Fdrw.binds (ps := ["_law_held", "_law_many"]) fun _ _ _ _ _ _ us hl => match us, hl with | [_, _], _ => rfl
  have Fpck := fun_mk (st := sPick) lpck cpck kpck
  have mpck := PySem.W.mg_of X G apck
  have bpck := Fpck.binds (ps := ["_law_held", "_law_some"]) fun _ _ _ _ _ _ us hl => match us, hl with | [_, _], _ => rfl
  have Fwrd := fun_mk (st := sWord) lwrd cwrd kwrd
  have mwrd := PySem.W.mg_of X G awrd
  have bwrd := Fwrd.binds (ps := ["_law_held"]) fun _ _ _ _ _ _ us hl => match us, hl with | [_], _ => rfl
  have Fwor := fun_mk (st := sWor) lwor cwor kwor
  have mwor := PySem.W.mg_of X G awor
  have bwor := Fwor.binds (ps := ["_law_held", "_law_within"]) fun _ _ _ _ _ _ us hl => match us, hl with | [_, _], _ => rfl
  have Ffrm := fun_mk (st := sFrom) lfrm cfrm kfrm
  have mfrm := PySem.W.mg_of X G afrm
  have bfrm := Ffrm.binds (ps := ["_law_it", "_law_least", "_law_most"]) fun _ _ _ _ _ _ us hl => match us, hl with | [_, _, _], _ => rfl
  have Flwd := fun_mk (st := sLWord) llwd clwd klwd
  have mlwd := PySem.W.mg_of X G alwd
  have blwd := Flwd.binds (ps := ["_law_it"]) fun _ _ _ _ _ _ us hl => match us, hl with | [_], _ => rfl
  have Flwt := fun_mk (st := sLWorth) llwt clwt klwt
  have mlwt := PySem.W.mg_of X G alwt
  have blwt := Flwt.binds (ps := ["_law_it", "_law_left"]) fun _ _ _ _ _ _ us hl => match us, hl with | [_, _], _ => rfl
  have Fshn := fun_mk (st := sShown) lshn cshn kshn
  have mshn := PySem.W.mg_of X G ashn
  have bshn := Fshn.binds (ps := ["_law_it"]) fun _ _ _ _ _ _ us hl => match us, hl with | [_], _ => rfl
  have Fodd := fun_mk (st := sOdd) lodd codd kodd
  have modd := PySem.W.mg_of X G aodd
  have bodd := Fodd.binds (ps := ["_law_held"]) fun _ _ _ _ _ _ us hl => match us, hl with | [_], _ => rfl
  have Fbnt := fun_mk (st := sBent) lbnt cbnt kbnt
  have mbnt := PySem.W.mg_of X G abnt
  have bbnt := Fbnt.binds (ps := ["_law_held", "_law_it"]) fun _ _ _ _ _ _ us hl => match us, hl with | [_, _], _ => rfl
  have Fwid := fun_mk (st := sWide) lwid cwid kwid
  have mwid := PySem.W.mg_of X G awid
  have bwid := Fwid.binds (ps := ["_law_held"]) fun _ _ _ _ _ _ us hl => match us, hl with | [_], _ => rfl
  have Flaw := fun_mk (st := sLaw) llaw claw klaw
  have mlaw := PySem.W.mg_of X G alaw
  have nisinstance := PySem.W.mg_none_of X G zisinstance
  have nstr := PySem.W.mg_none_of X G zstr
  have nint := PySem.W.mg_none_of X G zint
  have nbool := PySem.W.mg_none_of X G zbool
  have ntuple := PySem.W.mg_none_of X G ztuple
  have nlen := PySem.W.mg_none_of X G zlen
  have nall := PySem.W.mg_none_of X G zall
  have nlist := PySem.W.mg_none_of X G zlist
  have nrange := PySem.W.mg_none_of X G zrange
  have nrepr := PySem.W.mg_none_of X G zrepr
  have vMOST_LETTERS := PySem.W.mg_of X G yMOST_LETTERS
  have vFARTHEST := PySem.W.mg_of X G yFARTHEST
  have vMOST_WORTHS := PySem.W.mg_of X G yMOST_WORTHS
  have vWORTH_LEVELS := PySem.W.mg_of X G yWORTH_LEVELS
  have qisw := kb1 (y := "thing") Fisw (fun _ _ _ _ _ _ _ => rfl) (fun _ _ _ _ _ _ _ => rfl)
  have qisv := kb1 (y := "thing") Fisv (fun _ _ _ _ _ _ _ => rfl) (fun _ _ _ _ _ _ _ => rfl)
  have qshw := kb1 (y := "worth") Fshw (fun _ _ _ _ _ _ _ => rfl) (fun _ _ _ _ _ _ _ => rfl)
  refine ⟨PySem.W.fnOf "law" "law" (defArgs sLaw) (defBody sLaw) (defScope sLaw) .none kVlaw dclaw pmlaw anlaw cdlaw ctlaw, fun s v => .of_eq rfl, fun base _ _ => ?_⟩
  have Gisw := ok_isword (P := l.prog) (w := w) (pB := base) Fisw nisinstance nstr nlen vMOST_LETTERS
  have Gbtw := ok_between (P := l.prog) (w := w) (pB := base) Fbtw nisinstance nint nbool
  have Gwth := ok_within Fwth mwth bwth Gisw misw kisw bisw Gbtw mbtw kbtw bbtw nisinstance ntuple nlen nall vFARTHEST vMOST_WORTHS
  have Gisv := ok_isworth Fisv (Gwth 4) mwth kwth bwth vWORTH_LEVELS
  have Gbrk := ok_br (P := l.prog) (w := w) (mg := mg) (pB := base) Fbrk
  have Gshw := (ok_show Fshw mshw bshw Gbrk mbrk kbrk bbrk nisinstance ntuple 4).mono (k := 8) (by decide)
  have Gpen := ok_pen (P := l.prog) (w := w) (base := base) Fpen nlist
  have Gdrw := ok_draw (P := l.prog) (w := w) (base := base) Fdrw nlen
  have Gpck := ok_pick Fpck Gdrw mdrw kdrw bdrw nlen
  have Gwrd := ok_word Fwrd Gdrw mdrw kdrw bdrw Gpck mpck kpck bpck nrange
  have Gwor := ok_wor Fwor mwor bwor Gdrw mdrw kdrw bdrw Gwrd mwrd kwrd bwrd nint ntuple nrange 4
  have Gfrm := ok_from (P := l.prog) (w := w) (pB := base) Ffrm nisinstance nint nbool
  have Glwd := ok_lword (P := l.prog) (w := w) (pB := base) Flwd nisinstance nstr nlen
  have Glwt := ok_lworth Flwt mlwt blwt Glwd mlwd klwd blwd Gfrm mfrm kfrm bfrm nisinstance ntuple nlen 4
  have Gshn := ok_shown (P := l.prog) (w := w) (pB := base) Fshn mshn bshn nisinstance ntuple nstr 4
  have Godd := ok_odd Fodd Gdrw mdrw kdrw bdrw
  have Gbnt := ok_bentU (ok_bent Fbnt mbnt bbnt Gdrw mdrw kdrw bdrw Godd modd kodd bodd nisinstance ntuple nlen nlist)
  have Gwid := ok_wide Fwid Gdrw mdrw kdrw bdrw Gwrd mwrd kwrd bwrd nrange
  exact ok_law Flaw Gpen mpen kpen bpen Gdrw mdrw kdrw bdrw Gwor mwor kwor bwor Gwid mwid kwid bwid Godd modd kodd bodd Glwt mlwt klwt blwt Glwd mlwd klwd blwd Gisw misw kisw bisw Gisv misv kisv bisv Gshw mshw kshw bshw Gshn mshn kshn bshn Gbnt mbnt kbnt bbnt qshw qisw qisv nrange nrepr
theorem walk {l : PySem.W.OpenLaw} {q : Program} {loose : List Str} {XP : (Str → Option Value) → Heap → Prop} {YP : World → Heap → Prop} {d : DefRec} {K : Params → PySem.W.Frag} (hn : l.most = some 63) (hdf : d.params.defaults = [])
    (hY : ∀ (w : World) (h : Heap), YP w h → (K w.params).In h)
    (F : ∀ (w : World) (mg : Str → Option Value) (fa : Addr) (h : Heap), (K w.params).In h → h.Ns mainGlobals mg → mg d.name = some (.ref fa) →
      ∃ fd : FuncData, (∀ (s : Shared) (u : Value), BindsTo s fd ⟨[u], []⟩ [("_law_script", u)]) ∧ ∀ base : Heap, (K w.params).In base → base.Ns mainGlobals mg → FnG l.prog w (K w.params) mg base 14 fa fd ["_law_script"] (spLaw (K w.params))) :
    PySem.W.WalkO q loose XP YP l.row.toRowW d [] (fun f vs => PySem.call f vs) :=
  walkG (n := 63) (k := 14) (x := "_law_script") (sp := fun w => spLaw (K w.params)) hn (by decide) hdf ⟨rfl, by decide, by decide⟩ hY F (fun _ _ a ns hl hS => ⟨a, ns, rfl, hS, fun _ => rfl⟩)
end My

set_option Elab.async false
set_option linter.all false
set_option maxRecDepth 100000
open PySem PySem.W PyProof.Rows
set_option maxRecDepth 100000 in
set_option maxHeartbeats 0 in
theorem PySem.Challenge.cw_rankloop_k61_words_and_worths_holds : PySem.Challenge.rw_rankloop_k61_words_and_worths.Holds := by
  w_on; o_law; k_head; (case hw => w_witness2)
  k_fill
  refine My.walk (l := PySem.Challenge.rw_rankloop_k61_words_and_worths) rfl rfl (fun w h Y => PySem.W.kIn_of Y) ?F
  case F =>
    intro w mg fa h KX G hmg
    refine' My.all_mk KX G hmg ?aisw ?lisw ?cisw ?kisw ?abtw ?lbtw ?cbtw ?kbtw ?aisv ?lisv ?cisv ?kisv ?awth ?lwth ?cwth ?kwth ?ashw ?lshw ?cshw ?kshw ?abrk ?lbrk ?cbrk ?kbrk ?apen ?lpen ?cpen ?kpen ?adrw ?ldrw ?cdrw ?kdrw ?apck ?lpck ?cpck ?kpck ?awrd ?lwrd ?cwrd ?kwrd ?awor ?lwor ?cwor ?kwor ?afrm ?lfrm ?cfrm ?kfrm ?alwd ?llwd ?clwd ?klwd ?alwt ?llwt ?clwt ?klwt ?ashn ?lshn ?cshn ?kshn ?aodd ?lodd ?codd ?kodd ?abnt ?lbnt ?cbnt ?kbnt ?awid ?lwid ?cwid ?kwid ?alaw ?llaw ?claw ?klaw ?zisinstance ?zstr ?zint ?zbool ?ztuple ?zlen ?zall ?zlist ?zrange ?zrepr ?yMOST_LETTERS ?yFARTHEST ?yMOST_WORTHS ?yWORTH_LEVELS
    (case aisw => k_is)
    (case lisw => k_is)
    (case cisw => k_is)
    (case kisw => k_is)
    (case abtw => k_is)
    (case lbtw => k_is)
    (case cbtw => k_is)
    (case kbtw => k_is)
    (case aisv => k_is)
    (case lisv => k_is)
    (case cisv => k_is)
    (case kisv => k_is)
    (case awth => k_is)
    (case lwth => k_is)
    (case cwth => k_is)
    (case kwth => k_is)
    (case ashw => k_is)
    (case lshw => k_is)
    (case cshw => k_is)
    (case kshw => k_is)
    (case abrk => k_is)
    (case lbrk => k_is)
    (case cbrk => k_is)
    (case kbrk => k_is)
    (case apen => k_is)
    (case lpen => k_is)
    (case cpen => k_is)
    (case kpen => k_is)
    (case adrw => k_is)
    (case ldrw => k_is)
    (case cdrw => k_is)
    (case kdrw => k_is)
    (case apck => k_is)
    (case lpck => k_is)
    (case cpck => k_is)
    (case kpck => k_is)
    (case awrd => k_is)
    (case lwrd => k_is)
    (case cwrd => k_is)
    (case kwrd => k_is)
    (case awor => k_is)
    (case lwor => k_is)
    (case cwor => k_is)
    (case kwor => k_is)
    (case afrm => k_is)
    (case lfrm => k_is)
    (case cfrm => k_is)
    (case kfrm => k_is)
    (case alwd => k_is)
    (case llwd => k_is)
    (case clwd => k_is)
    (case klwd => k_is)
    (case alwt => k_is)
    (case llwt => k_is)
    (case clwt => k_is)
    (case klwt => k_is)
    (case ashn => k_is)
    (case lshn => k_is)
    (case cshn => k_is)
    (case kshn => k_is)
    (case aodd => k_is)
    (case lodd => k_is)
    (case codd => k_is)
    (case kodd => k_is)
    (case abnt => k_is)
    (case lbnt => k_is)
    (case cbnt => k_is)
    (case kbnt => k_is)
    (case awid => k_is)
    (case lwid => k_is)
    (case cwid => k_is)
    (case kwid => k_is)
    (case alaw => k_is)
    (case llaw => k_is)
    (case claw => k_is)
    (case klaw => k_is)
    (case zisinstance => k_is)
    (case zstr => k_is)
    (case zint => k_is)
    (case zbool => k_is)
    (case ztuple => k_is)
    (case zlen => k_is)
    (case zall => k_is)
    (case zlist => k_is)
    (case zrange => k_is)
    (case zrepr => k_is)
    (case yMOST_LETTERS => k_is)
    (case yFARTHEST => k_is)
    (case yMOST_WORTHS => k_is)
    (case yWORTH_LEVELS => k_is)

