import PyProof.Rows.All
import Wide.All
import OpenK.AllK
import Wide.FinOn
import KE.KEqNest
import KE.KRevSl
import HandS.ForMost
import HandS.IsInst
import HandS.TupAny
import HandS.TupMul
import HandS.Star
import HandS.FStr
import HandS.Flow
import HandS.Conv
import HandS.Codes
import HandS.RaiseMore
import HandS.Style
import HandS.Zip
import KE.KDictZip
import KE.GoesEnum
import KE.GoesMore
import KE.KDictList
import HandS.Walk
import HandS.Set
import HandS.SetFor
import HandS.Strs
import KE.KSortRegAny
import PyProof.ReprLen
import PySem.Challenge.RW_rankloop_k63_deeds_and_words_counted
set_option Elab.async false
set_option linter.all false
set_option maxRecDepth 100000
set_option maxHeartbeats 4000000
namespace My
open PySem L2 PyProof.Rows
theorem iteN {c A B : Prop} [Decidable c] (hc : ¬ c) (h : B) : if decide c = true then A else B := by
  rw [decide_eq_false hc]
  exact iteF h
theorem iteY {c A B : Prop} [Decidable c] (hc : c) (h : A) : if decide c = true then A else B := by
  rw [decide_eq_true hc]
  exact iteT h
theorem iteB0 {b : Bool} {A B : Prop} (hb : b = false) (h : B) : if b = true then A else B := by
  rw [hb]
  exact iteF h
theorem iteB1 {b : Bool} {A B : Prop} (hb : b = true) (h : A) : if b = true then A else B := by
  rw [hb]
  exact iteT h
theorem Same.new {H H' : Hp} {p : Addr} {o : HO} (s : Same H H') (h : H' p = none) : Same H (upd H' p o) := fun b u e => by
  have e' := s b u e
  rw [upd_ne (ne_of_none e' h)]
  exact e'
theorem asg_of {te : TE} {g : TG} {b : TS} {D : Ends} {σ : L2.St} {H : Hp} (h : te σ H fun x H1 => g x σ H1 fun σ2 H2 => b D σ2 H2) : tSeq (tAsg te g) b D σ H := h
theorem lst_of {t : TA} {σ : L2.St} {H : Hp} {Q : VK} (h : t σ H fun xs H1 => xs.length ≤ sizeLine ∧ ∀ p, H1 p = none → Q (.ref p) (upd H1 p (.lst xs))) : tLst t σ H Q := h
theorem cons_of {ta : TE} {tr : TA} {σ : L2.St} {H : Hp} {Q : List V → Hp → Prop} (h : ta σ H fun x H1 => tr σ H1 fun xs H2 => Q (x :: xs) H2) : tCons ta tr σ H Q := h
theorem nx_of {a b : TS} {D : Ends} {r : VK} {k c : L2.St → Hp → Prop} {σ : L2.St} {H : Hp} (h : tSeq a b D σ H) : Ends.nx { nx := tSeq a b D, rt := r, bk := k, ct := c } σ H := h
section
variable {X : Cx}
/-! ### a tuple against (), a list against [] -/
def rEqT0 (K : PySem.W.Frag) : R2 := fun x y H Q => ∃ a b xs, x = .ref a ∧ y = .ref b ∧ SqT K H a xs ∧ SqT K H b [] ∧ Q (.bl xs.isEmpty) H
theorem op_eqT0 (hu : X.A.units + 64 < cLine) : OpR X (compareOp .Eq) (rEqT0 X.K) := by
  intro pins s σ H x y v u Q I rx ry h
  obtain ⟨a, b, xs, rfl, rfl, ha, hb, q⟩ := h
  cases (show v = Value.ref a from rx)
  cases (show u = Value.ref b from ry)
  obtain ⟨its, r1, p1, _⟩ := I.tuple ha
  obtain ⟨its2, r2, p2, _⟩ := I.tuple hb
  cases r2
  refine PySem.W.eq_tuplesT (n := 0) (e := fun _ => true) p1 p2 (fun j h1 h2 => absurd h2 (by simp)) (by omega) ⟨.bl xs.isEmpty, H, I, ?_, q⟩
  have hl := r1.length
  show Value.bool _ = Value.bool _
  cases xs with
  | nil =>
    cases r1
    rfl
  | cons x xs =>
    cases its with
    | nil => cases r1
    | cons i is => simp
def rEqL0 (K : PySem.W.Frag) : R2 := fun x y H Q => ∃ a b xs, x = .ref a ∧ y = .ref b ∧ SqL K H a xs ∧ SqL K H b [] ∧ Q (.bl xs.isEmpty) H
theorem op_eqL0 (hu : X.A.units + 64 < cLine) : OpR X (compareOp .Eq) (rEqL0 X.K) := by
  intro pins s σ H x y v u Q I rx ry h
  obtain ⟨a, b, xs, rfl, rfl, ha, hb, q⟩ := h
  cases (show v = Value.ref a from rx)
  cases (show u = Value.ref b from ry)
  obtain ⟨its, r1, p1, _⟩ := I.list ha
  obtain ⟨its2, r2, p2, _⟩ := I.list hb
  cases r2
  cases xs with
  | nil =>
    cases r1
    exact PySem.W.eq_listsT (n := 0) (e := fun _ => true) p1.isList p2.isList rfl (fun j h1 h2 => absurd h2 (by simp)) (by omega) ⟨.bl true, H, I, rfl, q⟩
  | cons x xs =>
    cases its with
    | nil => cases r1
    | cons i is => exact SeqAt.eq_list_lengthsAt p1.isList p2.isList (by simp) (by omega) ⟨.bl false, H, I, rfl, q⟩
/-! ### t * 1 -/
theorem tuple_mul1 (l : Addr) (items : Array Value) (n : Nat) (dd : Option Addr) (sl : Array (Option Value)) (u : Tok) :
    Meets (Builtin.«tuple.__mul__» ⟨[.ref l, .int 1 u], []⟩) (fun _ R s => s.heap.get? l = some { cls := .type "tuple", dict := dd, data := .seq items n, slots := sl } ∧ R (.ok (.ret (Value.ref l))) s) :=
  .of_wp fun prog w A R s h => by
    obtain ⟨hp, g, d, tk, os⟩ := s
    obtain ⟨hl, h⟩ := h
    have f1 := AutoSeq1.idx_int
    wp_walk using wpAny_loadPart' hl
    exact ⟨_, rfl, h⟩
def rRepA (K : PySem.W.Frag) : R2 := fun x y H Q => ∃ l k xs, x = .ref l ∧ y = .int k ∧ SqT K H l xs ∧ xs ≠ [] ∧ 1 ≤ k ∧ k ≤ 1000 ∧ xs.length ≤ 1000 ∧
  (k = 1 → Q (.ref l) H) ∧ (2 ≤ k → ∀ p, H p = none → Q (.ref p) (upd H p (.tup (List.replicate k.toNat xs).flatten)))
theorem op_repA : OpR X (binaryOp .Mult) (rRepA X.K) := by
  intro pins s σ H x y v u Q I rx ry h
  obtain ⟨l, k, xs, rfl, rfl, hT, hne, h1, h2, hz, q1, q2⟩ := h
  by_cases hk : k = 1
  · subst hk
    cases rx
    obtain ⟨t, rfl⟩ := ry
    obtain ⟨its, r, ⟨⟨cls, dd, data, sl⟩, ho, hc, n, hd⟩, hs⟩ := I.tuple hT
    simp only at hc hd
    subst hc hd
    exact wpAny_binaryOp_repeat_ref (T := "tuple") (U := "int") (by decide) ⟨_, ho, rfl⟩ (fun s' => typeIs_int s' 1 t) noFill_tuple_mul F.fills_int_mul F.slot_int_rmul repeat_tuple F.slot_int_index.lookup
      (call_meets F.slot_int_rmul (typeIs_int s 1 t) F.entry_int_rmul (F.args_int_rmul_2 _ _) (int_rmul_tuple 1 t l its.toArray n dd sl)
        ⟨ho, rfl, ⟨_, ho, rfl⟩, call_meets F.slot_tuple_mul ⟨_, ho, rfl⟩ F.entry_tuple_mul (F.args_tuple_mul_2 _ _) (tuple_mul1 l its.toArray n dd sl t) ⟨ho, .ref l, H, I, rfl, q1 rfl⟩⟩)
  · exact op_repT pins s σ H _ _ v u Q I rx ry ⟨l, k, xs, rfl, rfl, hT, hne, by omega, h2, hz, q2 (by omega)⟩
/-! ### t[::-1] -/
theorem applied_rev {prog : Program} {w : World} {A : Around} {E : Value → Shared → Prop} {s : Shared} {sl : Addr} {vl vu vs : Value} {n : Nat} {Q : Int × Int × Nat → Shared → Prop} (hs : s.heap.IsSliceOf sl vl vu vs) (pl : IsPart vl none) (pu : IsPart vu none) (ps : IsPart vs (some (-1)))
    (h : Q ((n : Int) - 1, -1, n) s) : wpAny (model prog w) A (Builtin.Slice.sliceApplied (.ref sl) (pure (n : Int))) Q E s := by
  obtain ⟨os, hos, hcs, hds⟩ := id hs
  unfold Builtin.Slice.sliceApplied Builtin.Slice.sliceFields
  refine wpAny_bind (wpAny_bind (wpAny_field hos hds (x := vl) rfl (wpAny_bind (wpAny_field hos hds (x := vu) rfl (wpAny_bind (wpAny_field hos hds (x := vs) rfl (wpAny_pure ?_)))))))
  refine wpAny_bind (HT.slicePart_ ps ?_)
  show wpAny _ _ (if ((-1 : Int) == 0) = true then _ else _) _ _ s
  rw [if_neg (by decide)]
  refine wpAny_bind (HT.slicePart_ pl (wpAny_bind (HT.slicePart_ pu (wpAny_bind (wpAny_pure ?_)))))
  show wpAny _ _ (pure ((n : Int) - 1, (-1 : Int), Builtin.Slice.slicePlaces ((n : Int) - 1) (-1) (-1))) _ _ s
  have e : Builtin.Slice.slicePlaces ((n : Int) - 1) (-1) (-1) = n := by
    unfold Builtin.Slice.slicePlaces
    rw [if_neg (by decide)]
    by_cases hn : (n : Int) - 1 > -1
    · rw [if_pos hn, show (- -1 : Int) = 1 by decide, Int.ediv_one]; omega
    · rw [if_neg hn]; omega
  rw [e]
  exact wpAny_pure h
theorem pick_rev (xs : Array Value) : ((List.range xs.size).filterMap fun (m : Nat) => xs[((xs.size : Int) - 1 + (m : Int) * (-1)).toNat]?).toArray = xs.toList.reverse.toArray := by
  have e : ((List.range xs.size).filterMap fun (m : Nat) => xs[((xs.size : Int) - 1 + (m : Int) * (-1)).toNat]?) = ((List.range xs.size).map fun k => xs.size - 1 - k).filterMap (xs[·]?) := by
    rw [List.filterMap_map]
    refine congrArg (fun g => List.filterMap g (List.range xs.size)) ?_
    funext m
    show xs[((xs.size : Int) - 1 + (m : Int) * (-1)).toNat]? = xs[xs.size - 1 - m]?
    exact congrArg (fun z => xs[z]?) (by omega)
  rw [e, PySem.W.krv_range, List.filterMap_reverse, PySem.W.krv_all]
theorem item_rev {prog : Program} {w : World} {A : Around} {E : Value → Shared → Prop} {s : Shared} {t sl : Addr} {items : Array Value} {vl vu vs : Value} {Q : Value → Shared → Prop} (ht : IsTup s.heap t items) (hs : s.heap.IsSliceOf sl vl vu vs) (pl : IsPart vl none) (pu : IsPart vu none) (ps : IsPart vs (some (-1)))
    (h : Q (.ref s.heap.objs.size) { s with heap := s.heap.push { cls := .type "tuple", data := .seq items.toList.reverse.toArray } }) (hz : items.size ≤ sizeLine) : wpAny (model prog w) A (getItem (.ref t) (.ref sl)) Q E s := by
  have fits : sizeOk (.seq items.toList.reverse.toArray) := by
    show items.toList.reverse.toArray.size ≤ sizeLine
    rw [List.size_toArray, List.length_reverse, Array.length_toList]
    exact hz
  obtain ⟨os, hos, hcs, hds⟩ := id hs
  have hTs : s.TypeIs (.ref sl) "slice" := ⟨os, hos, hcs⟩
  unfold getItem
  try with_reducible refine wpAny_holding ?_
  first | refine wpAny_bind (wpAny_pure ?_) | skip
  refine wpAny_bind (wpAny_sequenceKey ht.typeIs (by decide) ?_)
  refine wpAny_bind (wpAny_callSpecial?_slot (name := Str.ofString "__getitem__") ht.typeIs PyProof.Rows.slot_tuple_getitem (wpAny_call_entry PyProof.Rows.slot_tuple_getitem ht.typeIs entry_tuple_getitem ?_ (args_tuple_getitem _ _)))
  show wpAny _ _ (Builtin.Tuple.tupleItemsOf (.ref t) >>= _) _ _ s
  refine wpAny_bind (tupleItemsOf_ ht ?_)
  refine wpAny_bind (wpAny_typeOf hTs ?_)
  rw [if_pos (by decide)]
  refine wpAny_bind (applied_rev hs pl pu ps ?_)
  have hno : ¬ (((items.size : Int) - 1 == 0 && (-1 : Int) == 1 && items.size == items.size) = true) := by simp
  show wpAny _ _ (if ((items.size : Int) - 1 == 0 && (-1 : Int) == 1 && items.size == items.size) = true then _ else _) _ _ s
  rw [if_neg hno, pick_rev]
  first
    | exact wpAny_bind (m := Builtin.Tuple.tupleExact _) (wpAny_newObj_type (wpAny_pure ⟨_, rfl, wpAny_pure h⟩) fits)
    | exact wpAny_bind (m := Builtin.Tuple.tupleExact _) (wpAny_newObj_type (wpAny_bind (wpAny_pure (wpAny_pure ⟨_, rfl, wpAny_pure h⟩))) fits)
    | exact wpAny_bind (wpAny_bind (m := Builtin.Tuple.tupleExact _) (wpAny_newObj_type (wpAny_pure (wpAny_pure ⟨_, rfl, wpAny_pure h⟩)) fits))
    | exact wpAny_bind (wpAny_bind (m := Builtin.Tuple.tupleExact _) (wpAny_newObj_type (wpAny_pure ⟨_, rfl, wpAny_pure h⟩) fits))
def tRevT (K : PySem.W.Frag) (te : TE) : TE := fun σ H Q => te σ H fun x H1 => ∃ a xs, x = .ref a ∧ SqT K H1 a xs ∧ ∀ p, H1 p = none → Q (.ref p) (upd H1 p (.tup xs.reverse))
theorem pe_revT {e : Expr} {te : TE} {k : Nat} {p1 p2 p3 pos : Pos} (he : PE X e te) : PE X (.Subscript e (.Slice none none (some (.UnaryOp .USub (.Constant (.int 1) k p1) p2)) p3) pos) (tRevT X.K te) := by
  refine ⟨fun pins s σ H Q I h => ?_⟩
  refine Subscript_ (thn (he.run pins s σ H _ I h) fun v s1 ⟨x, H1, I1, r1, q1⟩ => ?_)
  obtain ⟨a, xs, ex, hx, q⟩ := q1
  subst ex
  cases r1
  have hst : PO X (some (.UnaryOp .USub (.Constant (.int 1) k p1) p2)) (tPart (tUn (rU fun i => .int (-i)) (tC (.int 1)))) := po_some (pe_un un_neg pe_int)
  refine wpAny_Slice (thn (po_none.run pins s1 σ H1 (fun o H2 => o = none ∧ H2 = H1) I1 ⟨rfl, rfl⟩) fun vl s2 ⟨l, H2, I2, pl, el, e2⟩ => ?_)
  subst el e2
  refine thn (po_none.run pins s2 σ H2 (fun o H3 => o = none ∧ H3 = H2) I2 ⟨rfl, rfl⟩) fun vu s3 ⟨u, H3, I3, pu, eu, e3⟩ => ?_
  subst eu e3
  refine thn (hst.run pins s3 σ H3 (fun o H4 => o = some (-1) ∧ H4 = H3) I3 ⟨1, rfl, -1, rfl, rfl, rfl⟩) fun vs s4 ⟨o, H4, I4, ps, eo, e4⟩ => ?_
  subst eo e4
  have I5 : Inv X pins σ H4 { s4 with heap := s4.heap.push { cls := .type "slice", data := .fields #[vl, vu, vs] } } := I4.kept (t' := s4.toks) fun b ob q => Heap.get?_push_of_some _ q
  obtain ⟨its, r, ht, hz⟩ := I5.tuple hx
  have hlen := r.length
  show wpAny (model X.prog X.w) X.A (subscriptTail e (.Slice none none (some (.UnaryOp .USub (.Constant (.int 1) k p1) p2)) p3) (.ref a) (.ref s4.heap.objs.size)) (EP X pins σ Q) X.xe { s4 with heap := s4.heap.push { cls := .type "slice", data := .fields #[vl, vu, vs] } }
  refine tail_any (ops := [.ref a, .ref s4.heap.objs.size]) ht.typeIs (PyProof.Rows.slot_tuple_getitem.lookup) ?_ (by with_unfolding_all rfl)
  refine item_rev ht (Heap.IsSliceOf.new _ vl vu vs) pl pu ps ?_ (by rw [List.size_toArray]; omega)
  refine ⟨.ref _, _, I5.laid (t' := s4.toks) (o := .tup xs.reverse) (fun b ob q => Heap.get?_push_of_some _ q) (Nat.le_refl _) ?_, rfl, q _ (I5.hok.fresh (Nat.le_refl _))⟩
  exact ⟨by rw [List.length_reverse]; exact hz, _, r.reverse, IsTup.new _ _⟩
/-! ### a def called by names alone -/
theorem pe_kw0 {CX : CXT} {k : Nat} {f : Addr} {fd : FuncData} {ps ks : List Str} {sp : Sp} {E : XK} {x : Str} {p pos : Pos} {kws : List Keyword} {tk : TA} {g : List Value → List Value → List Value} {gV : List V → List V → List V}
    (F : FnOk X.prog X.w X.K X.mg X.base CX k f fd ps sp) (hr : Room k X.A) (hg : Gl X x) (hm : X.mg x = some (.ref f)) (hk : PySem.W.keepIn X.K (.ref f) = true) (hb : KBinds X.K fd ps ks g gV) (hx : Passes CX X E) (hkw : PK X kws tk)
    (hall : (backToKw pos (keywordEach kws X.env)).all (·.1.isSome) = true := by rfl) (hks : (backToKw pos (keywordEach kws X.env)).filterMap (·.1) = ks := by rfl) (hdb : (x == ("__debug__" : Str)) = false := by decide)
    (hpl : ((backTo pos (starEach [] X.env)).any (·.1) || (backToKw pos (keywordEach kws X.env)).any (·.1.isNone)) = false := by rfl) :
    PE X (.Call (.Name x p) [] kws pos) (tCallK sp gV E tNil tk) := by
  refine ⟨fun pins s σ H Q I h => ?_⟩
  refine wpAny_Call_Name_kw (ld_glob I hg hm ?_ hdb)
  refine PySem.W.callWith_KW0 (h₀ := X.base) I.ok.mod.kin hk hall ?_ hpl
  refine thn (hkw.run pos pins s σ H _ I h) fun ws s2 ⟨zs, H2, I2, rz, q2⟩ => ⟨I2.kIn, ?_⟩
  rw [hks]
  exact run_fnk (us := []) (vs := []) F hr hb hx I2 .nil rz q2
/-! ### a comprehension over a text -/
theorem lc_str {x : Str} {g : TG} {tt : TT} {te : TE} {vs : List Nat} {σ : L2.St} {H1 : Hp} {D : Addr} {Qd : Hp → Prop} (Pv : Nat → Hp → Prop) (h0 : Pv 0 (upd H1 D (.lst [])))
    (hs : ∀ i c H, x.cps[i]? = some c → Pv i H → g (.str ⟨#[c]⟩) (wipe σ vs) H fun σ2 H2 => wipe σ2 vs = wipe σ vs ∧ tt σ2 H2 fun b H3 =>
      if b = true then te σ2 H3 fun y H4 => ∃ acc, H4 D = some (.lst acc) ∧ acc.length < sizeLine ∧ Pv (i + 1) (upd H4 D (.lst (acc ++ [y]))) else Pv (i + 1) H3) (hd : ∀ H, Pv x.cps.size H → Qd H) :
    ∃ W : Nat → Nat → Hp → Prop, (∃ m, W 0 m (upd H1 D (.lst []))) ∧ ∀ i m H, W i m H →
      ((Its x).stop i H ∧ Qd H) ∨ ((Its x).go i H ∧ ∃ Nx : Hp → Prop, (∀ H', Nx H' → ∃ m', m' < m ∧ W (i + 1) m' H') ∧ ∀ y H', (Its x).yld i H y H' → g y (wipe σ vs) H' fun σ2 H2 => wipe σ2 vs = wipe σ vs ∧ tt σ2 H2 fun b H3 =>
        if b = true then te σ2 H3 fun y H4 => ∃ acc, H4 D = some (.lst acc) ∧ acc.length < sizeLine ∧ Nx (upd H4 D (.lst (acc ++ [y]))) else Nx H3) := by
  refine ⟨fun i m H => m = x.cps.size - i ∧ i ≤ x.cps.size ∧ Pv i H, ⟨_, rfl, Nat.zero_le _, h0⟩, ?_⟩
  rintro i m H ⟨rfl, hi, p⟩
  by_cases hlt : i < x.cps.size
  · refine .inr ⟨hlt, Pv (i + 1), fun H' p' => ⟨x.cps.size - (i + 1), by omega, rfl, hlt, p'⟩, fun y H' hy => ?_⟩
    obtain ⟨rfl, c, hc, rfl⟩ := hy
    exact hs i c _ hc p
  · have e : i = x.cps.size := by omega
    subst e
    exact .inl ⟨Nat.le_refl _, hd _ p⟩
end
end My

set_option Elab.async false
set_option linter.all false
set_option maxRecDepth 100000
set_option maxHeartbeats 4000000
namespace My
open PySem L2 PyProof.Rows
/-- repr of a list that is read as plain data; the def is called where nothing else is being shown -/
theorem call_reprL {X : Cx} (hg : X.A.guards = some []) (hu : X.A.units + 64 < cLine) : CallR X (.builtin "repr") (fun xs H Q => ∃ a d, xs = [.ref a] ∧ Dp X.K H (.ref a) d ∧ d.showable = true ∧ d.hasDict = false ∧ d.depth ≤ 60 ∧ d.shown.length ≤ sizeLine ∧ Q (.str d.shown) H) := by
  intro pins s σ H xs us Q I r h
  obtain ⟨a, d, rfl, hd, h1, h2, h3, h4, q⟩ := h
  obtain ⟨u, rfl, ru⟩ := vals1 r
  cases (show u = Value.ref a from ru)
  obtain ⟨as, rd⟩ := Dp.reads I d _ _ hd rfl
  exact repr_of_reads' rd h1 (PyData.noDict_hsm h2) hg (by omega) (fun _ _ e => e) (fun h' u tk hk => ⟨.str _, H, I.kept (t' := tk) hk, ⟨_, rfl⟩, q⟩) h4
/-- a def's promise where nothing is being shown around it -/
structure FnG (P : Program) (w : World) (K : PySem.W.Frag) (mg : Str → Option Value) (base : Heap) (k : Nat) (f : Addr) (fd : FuncData) (ps : List Str) (sp : Sp) : Prop where
  run : ∀ (A : Around) (outer : List Env) (s : Shared) (H : Hp) (args : Args) (us : List Value) (vs : List V) (Q : VK) (E : XK), A.guards = some [] → Room k A → Env0 P w K mg base A outer s H → BindsTo s fd args (ps.zip us) → Vals vs us → sp vs H Q E →
    codeAny (model P w) A (.call (.ref f) args) (CR CX0 outer P w H s Q E) s
theorem okG {P : Program} {w : World} {K : PySem.W.Frag} {mg : Str → Option Value} {base : Heap} {x qual : Str} {st : Stmt} {f : Addr} {fd : FuncData} {N ps : List Str} {k : Nat} {sp : Sp} (F : Fun K x qual st f fd) (S : FnScope N ps (defScope st)) (len : ∀ vs H Q E, sp vs H Q E → vs.length = ps.length)
    (hbody : ∀ (cdv : Value) (A : Around) (outer : List Env) (s : Shared) (H : Hp) (vs : List V) (Q : VK) (E : XK), A.guards = some [] → Room k (A.deeper (envOfC qual (defScope st) s.heap.objs.size f cdv)) → sp vs H Q E →
      ∃ t, PSs (cxOf CX0 P w K mg base N qual (defScope st) f cdv A outer s H E).nox (defBody st) t ∧ t { nx := fun _ H' => Q .non H', rt := Q } (start N vs) H) : FnG P w K mg base (k + 1) f fd ps sp := by
  refine ⟨fun A outer s H args us vs Q E hg => ?_⟩
  obtain ⟨oc, od, kV, doc, pm, an, cdv, ct, osl, rfl, lk, hcd⟩ := F.ex
  intro hr e0 hb r hsp
  have hl := len _ _ _ _ hsp
  have KX : K.In s.heap := e0.mod.kin.keeps fun b o e => (e0.bs b o e).1
  have lim : s.heap.NoLimit := e0.mod.nolimit.keeps fun b o e => (e0.bs b o e).1
  have kinds : ∀ y ∈ ps.zip us, (defScope st).names.lookup y.1 = some .local ∨ ((defScope st).names.lookup y.1 = some .cell ∧ ((cellsFrom (s.heap.objs.size + 1) (defScope st).names []).lookup y.1).isSome = true) := by
    rintro ⟨n, v⟩ hy
    rcases S.par n (List.of_mem_zip hy).1 with q | q
    · exact .inl q
    · exact .inr ⟨q, PySem.W.cellsFrom_some _ _ _ (.inl q)⟩
  refine codeAny_call_function hr.depth (KX _ _ lk) rfl S.co S.gen rfl (PySem.W.codeRec_of KX hcd) (hb _ _ _ _ ?_)
  refine wpAny_newFunctionEnv_cells S.kind kinds fun env he s1 x => ?_
  subst he
  refine ⟨lim.keeps x.toInCall.keep, codeAny_func ?_⟩
  obtain ⟨t, ht0, hq⟩ := hbody cdv A outer s H vs Q E hg (hr.deeper _) hsp
  have ht := ht0.nox
  have I : Inv (cxOf CX0 P w K mg base N qual (defScope st) f cdv A outer s H E) [] (start N vs) H s1 := inv_start S hr.hd e0 hl r x
  refine wpAny_mono (ht.run [] s1 (start N vs) H _ I hq) (fun fl s' hs => ?_) fun e s' hs => hs
  have fin : ∀ {σ' : L2.St} {H' : Hp} {v : V} {u : Value}, Inv (cxOf CX0 P w K mg base N qual (defScope st) f cdv A outer s H E) [] σ' H' s' → RelV v u → Q v H' → CE outer P w H s Q u s' := fun {σ' H' v u} J rv q =>
    ⟨v, H', J.os, J.bare, J.base, J.hok, rv, q⟩
  cases fl with
  | ret u =>
    obtain ⟨v, σ', H', J, rv, q⟩ := hs
    exact fin J rv q
  | next =>
    obtain ⟨σ', H', J, q⟩ := hs
    exact fin (v := V.non) (u := Value.none) J rfl q
  | brk =>
    obtain ⟨σ', H', J, q⟩ := hs
    exact q.elim
  | cont =>
    obtain ⟨σ', H', J, q⟩ := hs
    exact q.elim
/-- the law's call, from such a promise -/
theorem law_callG {P : Program} {w : World} {K : PySem.W.Frag} {mg mb : Str → Option Value} {k : Nat} {fa a : Addr} {fd : FuncData} {x : Str} {sp : Sp} {s1 : Shared} {vs : List Value} {ns : List Int}
    (KX : K.In s1.heap) (hns : s1.heap.Ns mainGlobals mg) (hb : s1.heap.Ns builtinsNs mb) (hbb : ∀ x : Str, x ≠ "__name__" → mb x = bootBuiltins x) (hlim : s1.heap.NoLimit) (hg : s1.gens = #[])
    (ha : s1.heap.get? a = some { cls := .type "list", data := .seq vs.toArray }) (hi : IntsAre vs ns) (hl : ns.length ≤ sizeLine) (hr : Room k callerA)
    (F : ∀ base : Heap, K.In base → base.Ns mainGlobals mg → FnG P w K mg base k fa fd [x] sp) (hbind : ∀ (s : Shared) (u : Value), BindsTo s fd ⟨[u], []⟩ [(x, u)])
    (hsp : ∀ H : Hp, SqL K H a (ns.map V.int) → sp [.ref a] H (fun v _ => v = .bl true) fun _ _ _ => False) :
    codeAny (model P w) callerA (.call (.ref fa) ⟨[.ref a], []⟩) (fun r s' => r = .ok (.ret (.bool true)) ∧ OldK s1.heap s'.heap ∧ s'.os = s1.os ∧ AllBare s'.gens) s1 := by
  have rv := vals_ints hi
  have lenV := hi.length
  have core : ∀ H : Hp, Only H → SqL K H a (ns.map V.int) → HOk P w H s1.heap → (∀ b, H b ≠ none → b = a) → (H a ≠ none → K.lookup a = none) →
      codeAny (model P w) callerA (.call (.ref fa) ⟨[.ref a], []⟩) (fun r s' => r = .ok (.ret (.bool true)) ∧ OldK s1.heap s'.heap ∧ s'.os = s1.os ∧ AllBare s'.gens) s1 := by
    intro H hO hS hok hA hK
    have free : ∀ {b : Addr} {o : Obj} {es : Array DictEntry} {ep : Nat}, s1.heap.get? b = some o → o.data = .dict es ep → H b = none := by
      intro b o es ep e dt
      cases hb' : H b with
      | none => rfl
      | some u =>
        have eb : b = a := hA b (by rw [hb']; simp)
        subst eb
        rw [ha] at e
        cases e
        cases (show Data.seq vs.toArray _ = Data.dict es ep from dt)
    have nsK : ∀ {b : Addr} {m : Str → Option Value}, s1.heap.Ns b m → (hidT s1.heap H).Ns b m := by
      rintro b m ⟨o, es, ep, e, dt, r⟩
      exact ⟨o, es, ep, hidT_get e (free e dt), dt, r⟩
    have hKb : K.In (hidT s1.heap H) := by
      intro b o e
      refine hidT_get (KX b o e) ?_
      cases hb' : H b with
      | none => rfl
      | some u =>
        have eb : b = a := hA b (by rw [hb']; simp)
        subst eb
        rw [hK (by rw [hb']; simp)] at e
        cases e
    have hM : Mod K mg (hidT s1.heap H) := ⟨hKb, nsK hns, ⟨mb, nsK hb, hbb⟩, let ⟨mc, h1, h2⟩ := hlim; ⟨mc, nsK h1, h2⟩⟩
    have e0 : Env0 P w K mg (hidT s1.heap H) callerA [] s1 H :=
      ⟨rfl, hM, fun b o e => of_hidT e, Nat.le_of_eq (hidT_size _ _), trivial, fun b hb => absurd (show b ∈ ([] : List Addr) from hb) (by simp), hok, .of_eq hg⟩
    refine codeAny_mono ((F _ hKb (nsK hns)).run callerA [] s1 H ⟨[.ref a], []⟩ [.ref a] [.ref a] _ _ rfl hr e0 (hbind s1 (.ref a)) (.cons rfl .nil) (hsp H hS)) fun r s' h => ?_
    cases r with
    | error e => exact False.elim h
    | ok fl =>
      cases fl with
      | next => exact False.elim h
      | brk => exact False.elim h
      | cont => exact False.elim h
      | ret u =>
        obtain ⟨v, H', os, bare, un, hok', r', q⟩ := h
        cases (show v = .bl true from q)
        obtain rfl : u = Value.bool true := r'
        refine ⟨rfl, OldK.of_keep fun b o e => ?_, os, bare⟩
        cases hb' : H b with
        | none => exact un.keep b o e hb' (by intro z; exact absurd (show b ∈ ([] : List Addr) from z) (by simp)) (by simp)
        | some u =>
          rcases hO b with z | ⟨ob, xs, z⟩
          · rw [hb'] at z; cases z
          · obtain ⟨e1, _⟩ := hok b _ z
            obtain ⟨e2, _⟩ := hok' b _ (un.frzs b ob _ z)
            rw [e] at e1
            cases e1
            exact e2
  cases hk : K.lookup a with
  | some o =>
    have e := KX a o hk
    rw [ha] at e
    cases e
    exact core (fun _ => none) (fun _ => .inl rfl) (.inr ⟨_, vs.toArray, _, hk, rfl, rfl, rfl, by rw [List.size_toArray, lenV]; exact hl, by simpa using rv⟩) (fun b u z => by cases (show (none : Option HO) = some u from z)) (fun b z => absurd rfl z) fun z => absurd rfl z
  | none =>
    refine core (fun b => if b = a then some (.frz { cls := .type "list", data := .seq vs.toArray } (.lst (ns.map V.int))) else none) (fun b => ?_) (.inl (.inr ⟨{ cls := .type "list", data := .seq vs.toArray }, if_pos rfl⟩)) (fun b u z => ?_) (fun b z => ?_) fun _ => hk
    · by_cases eb : b = a
      · exact .inr ⟨_, _, if_pos eb⟩
      · exact .inl (if_neg eb)
    · by_cases eb : b = a
      · cases ((if_pos eb).symm.trans z)
        subst eb
        exact ⟨ha, by rw [List.length_map]; exact hl, vs, _, rv, ha⟩
      · cases ((if_neg eb).symm.trans z)
    · by_cases eb : b = a
      · exact eb
      · exact absurd (if_neg eb) z
theorem walkG {l : PySem.W.OpenLaw} {n k : Nat} {q : Program} {loose : List Str} {XP : (Str → Option Value) → Heap → Prop} {YP : World → Heap → Prop} {d : DefRec} {K : Params → PySem.W.Frag} {sp : World → Sp} {x : Str}
    (hn : l.most = some n) (hn2 : n ≤ sizeLine) (hdf : d.params.defaults = []) (hr : Room k callerA) (hY : ∀ (w : World) (h : Heap), YP w h → (K w.params).In h)
    (F : ∀ (w : World) (mg : Str → Option Value) (fa : Addr) (h : Heap), (K w.params).In h → h.Ns mainGlobals mg → mg d.name = some (.ref fa) →
      ∃ fd : FuncData, (∀ (s : Shared) (u : Value), BindsTo s fd ⟨[u], []⟩ [(x, u)]) ∧ ∀ base : Heap, (K w.params).In base → base.Ns mainGlobals mg → FnG l.prog w (K w.params) mg base k fa fd [x] (sp w))
    (hsp : ∀ (w : World) (H : Hp) (a : Addr) (ns : List Int), ns.length ≤ n → SqL (K w.params) H a (ns.map V.int) → sp w [.ref a] H (fun v _ => v = .bl true) fun _ _ _ => False) :
    PySem.W.WalkO q loose XP YP l.row.toRowW d [] (fun f vs => PySem.call f vs) := by
  refine Att.attach_call hn hdf fun w s0 s1 mg mb fa o pm cd doc a vs ns G Y ho hd hcd hmg hobj hints hlen hg => ?_
  have KX := hY w _ Y
  obtain ⟨fd, hb, hF⟩ := F w mg fa _ KX G.T.g hmg
  exact law_callG KX G.T.g G.T.b G.T.builtins G.T.nolimit hg hobj hints (Nat.le_trans hlen hn2) hr hF hb (fun H hS => hsp w H a ns hlen hS)
end My

set_option Elab.async false
set_option linter.all false
set_option maxRecDepth 100000
set_option maxHeartbeats 4000000
namespace My
open PySem L2
/-! ### things as trees -/
def base (H : Hp) (T : V → List PyData → Prop) (v : V) : PyData → Prop
  | .none => v = .non
  | .bool b => v = .bl b
  | .int i => v = .int i
  | .str x => v = .str x
  | .list _ => ∃ a xs, v = .ref a ∧ H a = some (.lst xs)
  | .dict _ => ∃ a, v = .ref a ∧ H a = some (.dK [])
  | .tuple ds => T v ds
/-- v is the tree d, tuples at most n within one another; of a list and a dict only that they are such -/
def Rep (H : Hp) : Nat → V → PyData → Prop
  | 0 => base H fun _ _ => False
  | n + 1 => base H fun v ds => ∃ a xs, v = .ref a ∧ H a = some (.tup xs) ∧ Paired (Rep H n) xs ds
theorem base_mono {H H' : Hp} {T T' : V → List PyData → Prop} {v : V} {d : PyData} (hl : ∀ a xs, H a = some (.lst xs) → H' a = some (.lst xs)) (hd : ∀ a, H a = some (.dK []) → H' a = some (.dK [])) (ht : ∀ ds, T v ds → T' v ds)
    (h : base H T v d) : base H' T' v d := by
  cases d with
  | none => exact h
  | bool b => exact h
  | int i => exact h
  | str x => exact h
  | list ds =>
    obtain ⟨a, xs, e, q⟩ := h
    exact ⟨a, xs, e, hl a xs q⟩
  | dict kvs =>
    obtain ⟨a, e, q⟩ := h
    exact ⟨a, e, hd a q⟩
  | tuple ds => exact ht ds h
theorem Rep.mono {H : Hp} : ∀ {n m : Nat} {v : V} {d : PyData}, n ≤ m → Rep H n v d → Rep H m v d
  | 0, 0, _, _, _, h => h
  | 0, m + 1, _, _, _, h => base_mono (fun _ _ q => q) (fun _ q => q) (fun _ z => z.elim) h
  | n + 1, 0, _, _, h, _ => absurd h (by omega)
  | n + 1, m + 1, v, d, hm, h => base_mono (fun _ _ q => q) (fun _ q => q) (fun ds ⟨a, xs, e, q, p⟩ => ⟨a, xs, e, q, Paired.mapP p fun _ _ z => Rep.mono (by omega) z⟩) h
/-- all but what stands at d is kept -/
def Kp (d : Addr) (H H' : Hp) : Prop := ∀ c o, H c = some o → c ≠ d → H' c = some o
theorem Kp.refl (d : Addr) (H : Hp) : Kp d H H := fun _ _ e _ => e
theorem Kp.trans {d : Addr} {H H1 H2 : Hp} (a : Kp d H H1) (b : Kp d H1 H2) : Kp d H H2 := fun c o e n => b c o (a c o e n) n
theorem Kp.of {d : Addr} {H H' : Hp} (s : Same H H') : Kp d H H' := fun c o e _ => s c o e
theorem Rep.keep {H H' : Hp} {d : Addr} {kvs : List (Key × V)} (hd : H d = some (.dK kvs)) (hne : kvs ≠ []) (k : Kp d H H') : ∀ {n : Nat} {v : V} {x : PyData}, Rep H n v x → Rep H' n v x := by
  have kl : ∀ a xs, H a = some (.lst xs) → H' a = some (.lst xs) := fun a xs e => k a _ e (ne_of e hd (by intro z; cases z))
  have kd : ∀ a, H a = some (.dK []) → H' a = some (.dK []) := fun a e => k a _ e (ne_of e hd (by intro z; exact hne (HO.dK.inj z).symm))
  intro n
  induction n with
  | zero =>
    intro v x h
    exact base_mono kl kd (fun _ z => z) h
  | succ n ih =>
    intro v x h
    exact base_mono kl kd (fun ds ⟨a, xs, e, q, p⟩ => ⟨a, xs, e, k a _ q (ne_of q hd (by intro z; cases z)), Paired.mapP p fun _ _ z => ih z⟩) h
theorem Rep.same {H H' : Hp} (s : Same H H') : ∀ {n : Nat} {v : V} {x : PyData}, Rep H n v x → Rep H' n v x := by
  intro n
  induction n with
  | zero =>
    intro v x h
    exact base_mono (fun _ _ e => s _ _ e) (fun _ e => s _ _ e) (fun _ z => z) h
  | succ n ih =>
    intro v x h
    exact base_mono (fun _ _ e => s _ _ e) (fun _ e => s _ _ e) (fun ds ⟨a, xs, e, q, p⟩ => ⟨a, xs, e, s _ _ q, Paired.mapP p fun _ _ z => ih z⟩) h
/-! ### sizes -/
mutual
def szD : PyData → Nat
  | .tuple ds => 1 + szL ds
  | .str x => 1 + x.length
  | .none => 1
  | .bool _ => 1
  | .int _ => 1
  | .list _ => 1
  | .dict _ => 1
def szL : List PyData → Nat
  | [] => 0
  | d :: ds => szD d + szL ds
end
theorem szD_pos (d : PyData) : 1 ≤ szD d := by
  cases d <;> simp [szD] <;> omega
theorem szL_app : ∀ (xs ys : List PyData), szL (xs ++ ys) = szL xs + szL ys
  | [], ys => by simp [szL]
  | x :: xs, ys => by
    rw [List.cons_append, szL, szL, szL_app xs ys]; omega
theorem szL_len : ∀ xs : List PyData, xs.length ≤ szL xs
  | [] => Nat.le_refl _
  | x :: xs => by
    have h1 := szL_len xs
    have h2 := szD_pos x
    rw [List.length_cons, szL]; omega
theorem szL_get : ∀ {xs : List PyData} {i : Nat} {d : PyData}, xs[i]? = some d → szD d ≤ szL xs
  | [], _, _, e => by simp at e
  | x :: xs, 0, d, e => by
    simp at e
    subst e
    rw [szL]; omega
  | x :: xs, i + 1, d, e => by
    have h := szL_get (xs := xs) (i := i) (d := d) (by simpa using e)
    rw [szL]; omega
theorem szL_td : ∀ (xs : List PyData) (i : Nat), szL (xs.take i) + szL (xs.drop i) = szL xs := fun xs i => by
  rw [← szL_app, List.take_append_drop]
theorem szL_rev : ∀ xs : List PyData, szL xs.reverse = szL xs
  | [] => rfl
  | x :: xs => by
    rw [List.reverse_cons, szL_app, szL_rev xs, szL, szL, szL]; omega
theorem szL_rep (d : PyData) : ∀ k : Nat, szL (List.replicate k d) = k * szD d
  | 0 => by simp [szL]
  | k + 1 => by
    rw [List.replicate_succ, szL, szL_rep d k, Nat.succ_mul]; omega
/-! ### words and worths, as both sides tell them -/
def letters : List Nat := (Str.ofString "abcdefghijklmnopqrstuvwxyz").cps.toList
def isWd (x : Str) : Bool := decide (1 ≤ x.length ∧ x.length ≤ 8) && x.cps.toList.all fun c => decide (c ∈ letters)
def leafW : PyData → Bool
  | .none => true
  | .int i => decide (-1000000000 ≤ i ∧ i ≤ 1000000000)
  | .str x => isWd x
  | _ => false
def isW : Nat → PyData → Bool
  | 0, .tuple _ => false
  | n + 1, .tuple ds => decide (ds.length ≤ 20) && ds.all (isW n)
  | _, d => leafW d
theorem isW_leaf {n : Nat} {d : PyData} (h : ∀ ds, d ≠ .tuple ds) : isW n d = leafW d := by
  cases n <;> cases d <;> first | rfl | exact absurd rfl (h _)
/-! ### texts -/
def leafT : PyData → Str
  | .none => "-"
  | .int i => toString i
  | .str x => x
  | _ => ""
def shW : Nat → PyData → Str
  | n + 1, .tuple ds => Txt.join " " ((("<" : Str) :: ds.map (shW n)) ++ [(">" : Str)])
  | _, d => leafT d
theorem shW_leaf {n : Nat} {d : PyData} (h : ∀ ds, d ≠ .tuple ds) : shW n d = leafT d := by
  cases n <;> cases d <;> first | rfl | exact absurd rfl (h _)
/-! ### two unlike worths have unlike texts -/
open TL in
theorem joinL_app (S : List Nat) : ∀ {ps qs : List (List Nat)}, ps ≠ [] → qs ≠ [] → joinL S (ps ++ qs) = joinL S ps ++ (S ++ joinL S qs)
  | [], _, h, _ => absurd rfl h
  | [p], [], _, h => absurd rfl h
  | [p], q :: r, _, _ => rfl
  | p :: p2 :: ps, qs, _, h => by
    show p ++ (S ++ joinL S ((p2 :: ps) ++ qs)) = (p ++ (S ++ joinL S (p2 :: ps))) ++ (S ++ joinL S qs)
    rw [joinL_app S (by simp) h]
    simp [List.append_assoc]
open TL in
theorem joinL_flat (S : List Nat) : ∀ {pss : List (List (List Nat))}, (∀ ps ∈ pss, ps ≠ []) → joinL S (pss.map (joinL S)) = joinL S pss.flatten
  | [], _ => rfl
  | [ps], _ => by simp [joinL]
  | ps :: qs :: r, h => by
    have h1 : ps ≠ [] := h ps (List.mem_cons_self ..)
    have h2 : qs ≠ [] := h qs (by simp)
    have h3 : (qs :: r).flatten ≠ [] := by
      rw [List.flatten_cons]
      intro z
      exact h2 (List.append_eq_nil_iff.mp z).1
    show joinL S ps ++ (S ++ joinL S ((qs :: r).map (joinL S))) = joinL S (ps :: qs :: r).flatten
    rw [joinL_flat S (fun z hz => h z (List.mem_cons_of_mem _ hz)), show (ps :: qs :: r).flatten = ps ++ (qs :: r).flatten from rfl, joinL_app S h1 h3]
def tkL : Nat → PyData → List (List Nat)
  | n + 1, .tuple ds => [60] :: ((ds.map (tkL n)).flatten ++ [[62]])
  | _, d => [TL.tl (leafT d)]
theorem tkL_leaf {n : Nat} {d : PyData} (h : ∀ ds, d ≠ .tuple ds) : tkL n d = [TL.tl (leafT d)] := by
  cases n <;> cases d <;> first | rfl | exact absurd rfl (h _)
theorem tkL_ne (n : Nat) (d : PyData) : tkL n d ≠ [] := by
  cases n <;> cases d <;> simp [tkL]
theorem tl_shW : ∀ (n : Nat) (d : PyData), TL.tl (shW n d) = TL.joinL [32] (tkL n d)
  | 0, d => by cases d <;> rfl
  | n + 1, .tuple ds => by
    show TL.tl (Txt.join " " ((("<" : Str) :: ds.map (shW n)) ++ [(">" : Str)])) = TL.joinL [32] ([60] :: ((ds.map (tkL n)).flatten ++ [[62]]))
    rw [TL.join_eq, TL.tl_join, show TL.tl " " = [32] by decide +kernel]
    have e1 : ((("<" : Str) :: ds.map (shW n)) ++ [(">" : Str)]).map TL.tl = ([[[60]]] ++ ds.map (tkL n) ++ [[[62]]]).map (TL.joinL [32]) := by
      rw [List.map_append, List.map_cons, List.map_map, List.map_append, List.map_append, List.map_map]
      have e2 : ds.map (TL.tl ∘ shW n) = ds.map (TL.joinL [32] ∘ tkL n) := List.map_congr_left fun d _ => tl_shW n d
      rw [e2, show TL.tl ("<" : Str) = [60] by decide +kernel, show [(">" : Str)].map TL.tl = [[62]] by decide +kernel]
      rfl
    rw [e1, joinL_flat [32] (fun ps hp => ?_)]
    · simp [List.flatten_append]
    · rcases List.mem_append.mp hp with hp | hp
      · rcases List.mem_append.mp hp with hp | hp
        · rw [List.mem_singleton.mp hp]; simp
        · obtain ⟨d, _, rfl⟩ := List.mem_map.mp hp
          exact tkL_ne n d
      · rw [List.mem_singleton.mp hp]; simp
  | n + 1, .none => rfl
  | n + 1, .bool _ => rfl
  | n + 1, .int _ => rfl
  | n + 1, .str _ => rfl
  | n + 1, .list _ => rfl
  | n + 1, .dict _ => rfl
theorem ofS_app (a b : String) : Str.ofString (a ++ b) = Str.ofString a ++ Str.ofString b := by
  apply TL.ext_tl
  rw [TL.tl_append]
  simp [TL.tl, Str.ofString_eq_toList]
theorem tl_int (i : Int) : TL.tl (leafT (.int i)) = if i < 0 then 45 :: TL.numL i.natAbs else TL.numL i.natAbs := by
  show TL.tl (Str.ofString (toString i)) = _
  cases i with
  | ofNat m =>
    rw [if_neg (by simp)]
    exact TL.tl_num m
  | negSucc m =>
    rw [if_pos (Int.negSucc_lt_zero m)]
    have h : toString (Int.negSucc m) = "-" ++ toString ((m + 1 : Nat) : Int) := rfl
    rw [h, ofS_app, TL.tl_append, TL.tl_num]
    rfl
theorem letters_lo : ∀ c ∈ letters, 97 ≤ c ∧ c ≤ 122 := by decide +kernel
theorem isWd_let {x : Str} (h : isWd x = true) : (∀ c ∈ TL.tl x, 97 ≤ c ∧ c ≤ 122) ∧ TL.tl x ≠ [] ∧ x.length ≤ 8 := by
  unfold isWd at h
  rw [Bool.and_eq_true, decide_eq_true_eq, List.all_eq_true] at h
  obtain ⟨⟨h1, h2⟩, h3⟩ := h
  refine ⟨fun c hc => letters_lo c (of_decide_eq_true (h3 c hc)), fun z => ?_, h2⟩
  rw [TL.len_tl, z] at h1
  exact absurd h1 (by decide)
/-- the sign of a leaf that is no tuple: its kind is seen at its first code -/
theorem leaf_inj {d e : PyData} (hd : leafW d = true) (he : leafW e = true) (h : TL.tl (leafT d) = TL.tl (leafT e)) : d = e := by
  have digs : ∀ (i : Int) (c : Nat), c ∈ TL.tl (leafT (.int i)) → c = 45 ∨ (48 ≤ c ∧ c ≤ 57) := by
    intro i c hc
    rw [tl_int] at hc
    have dg := TL.numL_digits i.natAbs
    split at hc
    · rcases List.mem_cons.mp hc with z | z
      · exact .inl z
      · exact .inr (dg c z)
    · exact .inr (dg c hc)
  have int_ne : ∀ i : Int, TL.tl (leafT (.int i)) ≠ [] ∧ TL.tl (leafT (.int i)) ≠ [45] := by
    intro i
    rw [tl_int]
    have n0 := TL.numL_ne i.natAbs
    split
    · refine ⟨by simp, fun z => n0 ?_⟩
      exact (List.cons.inj z).2
    · refine ⟨n0, fun z => ?_⟩
      have := TL.numL_digits i.natAbs 45 (by rw [z]; simp)
      omega
  have none_t : TL.tl (leafT .none) = [45] := by decide +kernel
  cases d with
  | none =>
    cases e with
    | none => rfl
    | int i => exact absurd (h.symm.trans none_t) (int_ne i).2
    | str x =>
      have hx := (isWd_let he).1
      have : (45 : Nat) ∈ TL.tl x := by
        rw [show TL.tl x = [45] from h.symm.trans none_t]; simp
      exact absurd (hx 45 this).1 (by decide)
    | bool b => exact absurd (show false = true from he) Bool.false_ne_true
    | list l => exact absurd (show false = true from he) Bool.false_ne_true
    | tuple l => exact absurd (show false = true from he) Bool.false_ne_true
    | dict l => exact absurd (show false = true from he) Bool.false_ne_true
  | int i =>
    cases e with
    | none => exact absurd (h.trans none_t) (int_ne i).2
    | int j =>
      rw [tl_int, tl_int] at h
      have ni := TL.numL_digits i.natAbs
      have nj := TL.numL_digits j.natAbs
      by_cases hi : i < 0 <;> by_cases hj : j < 0
      · rw [if_pos hi, if_pos hj] at h
        have := TL.numL_inj (List.cons.inj h).2
        have e : i = j := by omega
        rw [e]
      · rw [if_pos hi, if_neg hj] at h
        have := nj 45 (by rw [← h]; simp)
        omega
      · rw [if_neg hi, if_pos hj] at h
        have := ni 45 (by rw [h]; simp)
        omega
      · rw [if_neg hi, if_neg hj] at h
        have := TL.numL_inj h
        have e : i = j := by omega
        rw [e]
    | str x =>
      have hx := (isWd_let he).1
      have hn := (isWd_let he).2.1
      obtain ⟨c, r, hc⟩ := List.exists_cons_of_ne_nil hn
      have m1 : c ∈ TL.tl x := by rw [hc]; simp
      have m2 : c ∈ TL.tl (leafT (.int i)) := by
        rw [h]; exact m1
      have := hx c m1
      have := digs i c m2
      omega
    | bool b => exact absurd (show false = true from he) Bool.false_ne_true
    | list l => exact absurd (show false = true from he) Bool.false_ne_true
    | tuple l => exact absurd (show false = true from he) Bool.false_ne_true
    | dict l => exact absurd (show false = true from he) Bool.false_ne_true
  | str x =>
    have hx := (isWd_let hd).1
    have hn := (isWd_let hd).2.1
    obtain ⟨c, r, hc⟩ := List.exists_cons_of_ne_nil hn
    have m1 : c ∈ TL.tl x := by rw [hc]; simp
    cases e with
    | none =>
      have : (45 : Nat) ∈ TL.tl x := by
        rw [show TL.tl x = [45] from h.trans none_t]; simp
      exact absurd (hx 45 this).1 (by decide)
    | int j =>
      have m2 : c ∈ TL.tl (leafT (.int j)) := by
        rw [← h]; exact m1
      have := hx c m1
      have := digs j c m2
      omega
    | str y => rw [TL.ext_tl (show TL.tl x = TL.tl y from h)]
    | bool b => exact absurd (show false = true from he) Bool.false_ne_true
    | list l => exact absurd (show false = true from he) Bool.false_ne_true
    | tuple l => exact absurd (show false = true from he) Bool.false_ne_true
    | dict l => exact absurd (show false = true from he) Bool.false_ne_true
  | bool b => exact absurd (show false = true from hd) Bool.false_ne_true
  | list l => exact absurd (show false = true from hd) Bool.false_ne_true
  | tuple l => exact absurd (show false = true from hd) Bool.false_ne_true
  | dict l => exact absurd (show false = true from hd) Bool.false_ne_true
/-- no leaf's sign is a bracket, none has a blank -/
theorem leaf_no {d : PyData} (hd : leafW d = true) : TL.tl (leafT d) ≠ [60] ∧ TL.tl (leafT d) ≠ [62] ∧ (32 : Nat) ∉ TL.tl (leafT d) := by
  have key : ∀ c ∈ TL.tl (leafT d), c = 45 ∨ (48 ≤ c ∧ c ≤ 57) ∨ (97 ≤ c ∧ c ≤ 122) := by
    cases d with
    | none =>
      intro c hc
      have : TL.tl (leafT .none) = [45] := by decide +kernel
      rw [this] at hc
      exact .inl (List.mem_singleton.mp hc)
    | int i =>
      intro c hc
      rw [tl_int] at hc
      have dg := TL.numL_digits i.natAbs
      split at hc
      · rcases List.mem_cons.mp hc with z | z
        · exact .inl z
        · exact .inr (.inl (dg c z))
      · exact .inr (.inl (dg c hc))
    | str x =>
      intro c hc
      exact .inr (.inr ((isWd_let hd).1 c hc))
    | bool b => exact absurd (show false = true from hd) Bool.false_ne_true
    | list l => exact absurd (show false = true from hd) Bool.false_ne_true
    | tuple l => exact absurd (show false = true from hd) Bool.false_ne_true
    | dict l => exact absurd (show false = true from hd) Bool.false_ne_true
  refine ⟨fun z => ?_, fun z => ?_, fun z => ?_⟩
  · have := key 60 (by rw [z]; simp)
    omega
  · have := key 62 (by rw [z]; simp)
    omega
  · have := key 32 z
    omega
theorem isW_tup {n : Nat} {ds : List PyData} (h : isW n (.tuple ds) = true) : ∃ m, n = m + 1 ∧ ds.length ≤ 20 ∧ ∀ d ∈ ds, isW m d = true := by
  cases n with
  | zero => exact absurd h (by simp [isW])
  | succ m =>
    rw [isW, Bool.and_eq_true, decide_eq_true_eq, List.all_eq_true] at h
    exact ⟨m, rfl, h.1, h.2⟩
theorem notTup {d : PyData} : (∃ ds, d = .tuple ds) ∨ ∀ ds, d ≠ .tuple ds := by
  cases d with
  | tuple ds => exact .inl ⟨ds, rfl⟩
  | _ => exact .inr fun ds z => by cases z
theorem tk_pre : ∀ (n : Nat) {d e : PyData} {r r' : List (List Nat)}, isW n d = true → isW n e = true → tkL n d ++ r = tkL n e ++ r' → d = e ∧ r = r' := by
  intro n
  induction n with
  | zero =>
    intro d e r r' hd he h
    have nd : ∀ ds, d ≠ .tuple ds := fun ds z => by rw [z] at hd; exact absurd hd (by simp [isW])
    have ne : ∀ ds, e ≠ .tuple ds := fun ds z => by rw [z] at he; exact absurd he (by simp [isW])
    rw [isW_leaf nd] at hd
    rw [isW_leaf ne] at he
    rw [tkL_leaf nd, tkL_leaf ne] at h
    obtain ⟨h1, h2⟩ := List.cons.inj h
    exact ⟨leaf_inj hd he h1, h2⟩
  | succ n ih =>
    have lists : ∀ (ds es : List PyData) (r r' : List (List Nat)), (∀ d ∈ ds, isW n d = true) → (∀ e ∈ es, isW n e = true) → (ds.map (tkL n)).flatten ++ ([62] :: r) = (es.map (tkL n)).flatten ++ ([62] :: r') → ds = es ∧ r = r' := by
      have first : ∀ (d : PyData) (q : List (List Nat)) (t : List (List Nat)), isW n d = true → [62] :: t = tkL n d ++ q → False := by
        intro d q t hd h
        rcases @notTup d with ⟨ds, rfl⟩ | nd
        · obtain ⟨m, rfl, _, _⟩ := isW_tup hd
          rw [tkL] at h
          exact absurd (List.cons.inj h).1 (by decide)
        · rw [tkL_leaf nd] at h
          rw [isW_leaf nd] at hd
          exact (leaf_no hd).2.1 (List.cons.inj h).1.symm
      intro ds
      induction ds with
      | nil =>
        intro es r r' _ he h
        cases es with
        | nil => exact ⟨rfl, (List.cons.inj h).2⟩
        | cons e es =>
          rw [List.map_cons, List.flatten_cons, List.append_assoc] at h
          exact (first e _ _ (he e (List.mem_cons_self ..)) h).elim
      | cons d ds ihl =>
        intro es r r' hd he h
        cases es with
        | nil =>
          rw [List.map_cons, List.flatten_cons, List.append_assoc] at h
          exact (first d _ _ (hd d (List.mem_cons_self ..)) h.symm).elim
        | cons e es =>
          rw [List.map_cons, List.flatten_cons, List.append_assoc, List.map_cons, List.flatten_cons, List.append_assoc] at h
          obtain ⟨h1, h2⟩ := ih (hd d (List.mem_cons_self ..)) (he e (List.mem_cons_self ..)) h
          obtain ⟨h3, h4⟩ := ihl es r r' (fun z hz => hd z (List.mem_cons_of_mem _ hz)) (fun z hz => he z (List.mem_cons_of_mem _ hz)) h2
          exact ⟨by rw [h1, h3], h4⟩
    intro d e r r' hd he h
    rcases @notTup d with ⟨ds, rfl⟩ | nd
    · obtain ⟨m, em, _, kd⟩ := isW_tup hd
      cases em
      rcases @notTup e with ⟨es, rfl⟩ | ne
      · obtain ⟨m2, em2, _, ke⟩ := isW_tup he
        cases em2
        rw [tkL, tkL, List.cons_append, List.cons_append, List.append_assoc, List.append_assoc] at h
        obtain ⟨h1, h2⟩ := lists ds es r r' kd ke (List.cons.inj h).2
        exact ⟨by rw [h1], h2⟩
      · rw [tkL_leaf ne, tkL] at h
        rw [isW_leaf ne] at he
        exact ((leaf_no he).1 (List.cons.inj h).1.symm).elim
    · rcases @notTup e with ⟨es, rfl⟩ | ne
      · rw [tkL_leaf nd, tkL] at h
        rw [isW_leaf nd] at hd
        exact ((leaf_no hd).1 (List.cons.inj h).1).elim
      · rw [isW_leaf nd] at hd
        rw [isW_leaf ne] at he
        rw [tkL_leaf nd, tkL_leaf ne] at h
        obtain ⟨h1, h2⟩ := List.cons.inj h
        exact ⟨leaf_inj hd he h1, h2⟩
theorem tk_free : ∀ (n : Nat) {d : PyData}, isW n d = true → ∀ t ∈ tkL n d, (32 : Nat) ∉ t := by
  intro n
  induction n with
  | zero =>
    intro d hd t ht
    have nd : ∀ ds, d ≠ .tuple ds := fun ds z => by rw [z] at hd; exact absurd hd (by simp [isW])
    rw [isW_leaf nd] at hd
    rw [tkL_leaf nd] at ht
    rw [List.mem_singleton.mp ht]
    exact (leaf_no hd).2.2
  | succ n ih =>
    intro d hd t ht
    rcases @notTup d with ⟨ds, rfl⟩ | nd
    · obtain ⟨m, em, _, kd⟩ := isW_tup hd
      cases em
      rw [tkL] at ht
      rcases List.mem_cons.mp ht with z | z
      · rw [z]; decide
      · rcases List.mem_append.mp z with z | z
        · obtain ⟨l, hl, htl⟩ := List.mem_flatten.mp z
          obtain ⟨e, hee, rfl⟩ := List.mem_map.mp hl
          exact ih (kd e hee) t htl
        · rw [List.mem_singleton.mp z]; decide
    · rw [isW_leaf nd] at hd
      rw [tkL_leaf nd] at ht
      rw [List.mem_singleton.mp ht]
      exact (leaf_no hd).2.2
theorem shW_inj {n : Nat} {d e : PyData} (hd : isW n d = true) (he : isW n e = true) (h : shW n d = shW n e) : d = e := by
  have h1 : TL.joinL [32] (tkL n d) = TL.joinL [32] (tkL n e) := by
    rw [← tl_shW, ← tl_shW, h]
  have h2 := congrArg (TL.spl [32] 0 []) h1
  rw [TL.spl_join (tkL_ne n d) (tk_free n hd), TL.spl_join (tkL_ne n e) (tk_free n he)] at h2
  exact (tk_pre n (r := []) (r' := []) hd he (by rw [h2])).1
end My

set_option Elab.async false
set_option linter.all false
set_option maxRecDepth 100000
set_option maxHeartbeats 4000000
namespace My
open PySem L2
/-! ### how long a worth's text is, and its signs -/
def sumL : List (List Nat) → Nat
  | [] => 0
  | p :: ps => (p.length + 1) + sumL ps
theorem sumL_app : ∀ ps qs : List (List Nat), sumL (ps ++ qs) = sumL ps + sumL qs
  | [], qs => by simp [sumL]
  | p :: ps, qs => by
    rw [List.cons_append, sumL, sumL, sumL_app ps qs]; omega
theorem joinL_len : ∀ {ps : List (List Nat)}, ps ≠ [] → (TL.joinL [32] ps).length + 1 = sumL ps
  | [], h => absurd rfl h
  | [p], _ => by simp [TL.joinL, sumL]
  | p :: q :: r, _ => by
    have h := joinL_len (ps := q :: r) (by simp)
    show (p ++ ([32] ++ TL.joinL [32] (q :: r))).length + 1 = (p.length + 1) + sumL (q :: r)
    rw [List.length_append, List.length_append, ← h]
    simp only [List.length_cons, List.length_nil]
    omega
theorem joinL_mem {c : Nat} : ∀ {ps : List (List Nat)}, c ∈ TL.joinL [32] ps → c = 32 ∨ ∃ t ∈ ps, c ∈ t
  | [], h => by simp [TL.joinL] at h
  | [p], h => .inr ⟨p, by simp, h⟩
  | p :: q :: r, h => by
    rcases List.mem_append.mp (show c ∈ p ++ ([32] ++ TL.joinL [32] (q :: r)) from h) with z | z
    · exact .inr ⟨p, by simp, z⟩
    · rcases List.mem_append.mp z with z | z
      · exact .inl (List.mem_singleton.mp z)
      · rcases joinL_mem z with z | ⟨t, ht, hc⟩
        · exact .inl z
        · exact .inr ⟨t, List.mem_cons_of_mem _ ht, hc⟩
theorem leaf_len {d : PyData} (hd : leafW d = true) : (TL.tl (leafT d)).length + 1 ≤ 12 * szD d := by
  cases d with
  | none => decide +kernel
  | int i =>
    have h : -1000000000 ≤ i ∧ i ≤ 1000000000 := of_decide_eq_true hd
    rw [tl_int]
    have hn : (TL.numL i.natAbs).length ≤ 10 := TL.numL_len (by decide) (show i.natAbs < 10 ^ 10 by omega)
    split
    · rw [List.length_cons, szD]; omega
    · rw [szD]; omega
  | str x =>
    show (TL.tl x).length + 1 ≤ 12 * szD (.str x)
    rw [szD, TL.len_tl]; omega
  | bool b => exact absurd (show false = true from hd) Bool.false_ne_true
  | list l => exact absurd (show false = true from hd) Bool.false_ne_true
  | tuple l => exact absurd (show false = true from hd) Bool.false_ne_true
  | dict l => exact absurd (show false = true from hd) Bool.false_ne_true
theorem leaf_sign {d : PyData} (hd : leafW d = true) : ∀ c ∈ TL.tl (leafT d), c ≤ 122 := by
  cases d with
  | none =>
    intro c hc
    rw [show TL.tl (leafT .none) = [45] by decide +kernel] at hc
    rw [List.mem_singleton.mp hc]; decide
  | int i =>
    intro c hc
    rw [tl_int] at hc
    have dg := TL.numL_digits i.natAbs
    split at hc
    · rcases List.mem_cons.mp hc with z | z
      · omega
      · have := dg c z; omega
    · have := dg c hc; omega
  | str x => exact fun c hc => ((isWd_let hd).1 c hc).2
  | bool b => exact absurd (show false = true from hd) Bool.false_ne_true
  | list l => exact absurd (show false = true from hd) Bool.false_ne_true
  | tuple l => exact absurd (show false = true from hd) Bool.false_ne_true
  | dict l => exact absurd (show false = true from hd) Bool.false_ne_true
theorem tk_sum : ∀ (n : Nat) {d : PyData}, isW n d = true → sumL (tkL n d) ≤ 12 * szD d ∧ ∀ t ∈ tkL n d, ∀ c ∈ t, c ≤ 122 := by
  intro n
  induction n with
  | zero =>
    intro d hd
    have nd : ∀ ds, d ≠ .tuple ds := fun ds z => by rw [z] at hd; exact absurd hd (by simp [isW])
    rw [isW_leaf nd] at hd
    rw [tkL_leaf nd]
    refine ⟨by simp only [sumL]; have := leaf_len hd; omega, fun t ht => ?_⟩
    rw [List.mem_singleton.mp ht]
    exact leaf_sign hd
  | succ n ih =>
    intro d hd
    rcases @notTup d with ⟨ds, rfl⟩ | nd
    · obtain ⟨m, em, _, kd⟩ := isW_tup hd
      cases em
      have key : ∀ ds : List PyData, (∀ d ∈ ds, isW n d = true) → sumL (ds.map (tkL n)).flatten ≤ 12 * szL ds ∧ ∀ t ∈ (ds.map (tkL n)).flatten, ∀ c ∈ t, c ≤ 122 := by
        intro ds
        induction ds with
        | nil => exact fun _ => ⟨by simp [sumL], fun t ht => by simp at ht⟩
        | cons e es ihl =>
          intro h
          obtain ⟨h1, h2⟩ := ih (h e (List.mem_cons_self ..))
          obtain ⟨h3, h4⟩ := ihl fun z hz => h z (List.mem_cons_of_mem _ hz)
          rw [List.map_cons, List.flatten_cons]
          refine ⟨?_, fun t ht => ?_⟩
          · rw [sumL_app, szL]; omega
          · rcases List.mem_append.mp ht with z | z
            · exact h2 t z
            · exact h4 t z
      obtain ⟨h1, h2⟩ := key ds kd
      rw [tkL]
      refine ⟨?_, fun t ht => ?_⟩
      · rw [sumL, sumL_app, szD]
        simp only [sumL, List.length_cons, List.length_nil]
        omega
      · rcases List.mem_cons.mp ht with z | z
        · rw [z]; intro c hc; rw [List.mem_singleton.mp hc]; decide
        · rcases List.mem_append.mp z with z | z
          · exact h2 t z
          · rw [List.mem_singleton.mp z]; intro c hc; rw [List.mem_singleton.mp hc]; decide
    · rw [isW_leaf nd] at hd
      rw [tkL_leaf nd]
      refine ⟨by simp only [sumL]; have := leaf_len hd; omega, fun t ht => ?_⟩
      rw [List.mem_singleton.mp ht]
      exact leaf_sign hd
theorem shW_len {n : Nat} {d : PyData} (hd : isW n d = true) : (shW n d).length + 1 ≤ 12 * szD d := by
  rw [TL.len_tl, tl_shW, joinL_len (tkL_ne n d)]
  exact (tk_sum n hd).1
theorem shW_sign {n : Nat} {d : PyData} (hd : isW n d = true) : ∀ c ∈ TL.tl (shW n d), c ≤ 122 := by
  intro c hc
  rw [tl_shW] at hc
  rcases joinL_mem hc with z | ⟨t, ht, h⟩
  · omega
  · exact (tk_sum n hd).2 t ht c h
theorem shW_repr {n : Nat} {d : PyData} (hd : isW n d = true) (hs : szD d ≤ 40000) : (reprText (shW n d)).length ≤ sizeLine := by
  have h1 := StrLaws.reprText_len (shW n d) fun c hc => Nat.lt_of_le_of_lt (shW_sign hd c hc) (by decide)
  have h2 := shW_len hd
  rw [sizeLine_eq]
  omega
/-! ### worths that are alike -/
theorem eqv_w : ∀ (n : Nat) {d e : PyData}, isW n d = true → isW n e = true → (PyData.eqv d e = true ↔ d = e) := by
  have leaf : ∀ {d e : PyData}, leafW d = true → leafW e = true → (PyData.eqv d e = true ↔ d = e) := by
    intro d e hd he
    cases d <;> cases e <;> first | exact absurd (show false = true from hd) Bool.false_ne_true | exact absurd (show false = true from he) Bool.false_ne_true | simp [PyData.eqv]
  have mixed : ∀ {d : PyData} {ds : List PyData}, leafW d = true → ¬ (PyData.eqv d (.tuple ds) = true) ∧ ¬ (PyData.eqv (.tuple ds) d = true) := by
    intro d ds hd
    cases d <;> first | exact absurd (show false = true from hd) Bool.false_ne_true | simp [PyData.eqv]
  intro n
  induction n with
  | zero =>
    intro d e hd he
    have nd : ∀ ds, d ≠ .tuple ds := fun ds z => by rw [z] at hd; exact absurd hd (by simp [isW])
    have ne : ∀ ds, e ≠ .tuple ds := fun ds z => by rw [z] at he; exact absurd he (by simp [isW])
    rw [isW_leaf nd] at hd
    rw [isW_leaf ne] at he
    exact leaf hd he
  | succ n ih =>
    have lists : ∀ ds es : List PyData, (∀ d ∈ ds, isW n d = true) → (∀ e ∈ es, isW n e = true) → (PyData.eqvAll ds es = true ↔ ds = es) := by
      intro ds
      induction ds with
      | nil => intro es _ _; cases es <;> simp [PyData.eqvAll]
      | cons d ds ihl =>
        intro es hd he
        cases es with
        | nil => simp [PyData.eqvAll]
        | cons e es =>
          rw [PyData.eqvAll, Bool.and_eq_true, ih (hd d (List.mem_cons_self ..)) (he e (List.mem_cons_self ..)), ihl es (fun z hz => hd z (List.mem_cons_of_mem _ hz)) (fun z hz => he z (List.mem_cons_of_mem _ hz))]
          constructor
          · rintro ⟨rfl, rfl⟩; rfl
          · intro h; exact ⟨(List.cons.inj h).1, (List.cons.inj h).2⟩
    intro d e hd he
    rcases @notTup d with ⟨ds, rfl⟩ | nd
    · obtain ⟨m, em, _, kd⟩ := isW_tup hd
      cases em
      rcases @notTup e with ⟨es, rfl⟩ | ne
      · obtain ⟨m2, em2, _, ke⟩ := isW_tup he
        cases em2
        rw [PyData.eqv, lists ds es kd ke]
        constructor
        · rintro rfl; rfl
        · intro h; exact PyData.tuple.inj h
      · rw [isW_leaf ne] at he
        exact ⟨fun z => ((mixed he).2 z).elim, fun z => (ne ds z.symm).elim⟩
    · rcases @notTup e with ⟨es, rfl⟩ | ne
      · rw [isW_leaf nd] at hd
        exact ⟨fun z => ((mixed hd).1 z).elim, fun z => (nd es z).elim⟩
      · rw [isW_leaf nd] at hd
        rw [isW_leaf ne] at he
        exact leaf hd he
theorem lay_w : ∀ (n : Nat) {d : PyData}, isW n d = true → d.canLay0 = true ∧ d.depth ≤ n := by
  have leaf : ∀ {d : PyData}, leafW d = true → d.canLay0 = true ∧ d.depth = 0 := by
    intro d hd
    cases d with
    | none => exact ⟨rfl, by simp [PyData.depth]⟩
    | int i => exact ⟨rfl, by simp [PyData.depth]⟩
    | str x =>
      refine ⟨?_, by simp [PyData.depth]⟩
      show PyData.strOk x = true
      unfold PyData.strOk
      rw [Array.all_eq_true']
      intro c hc
      have := (isWd_let hd).1 c (Array.mem_toList_iff.mpr hc)
      exact decide_eq_true (by omega)
    | bool b => exact absurd (show false = true from hd) Bool.false_ne_true
    | list l => exact absurd (show false = true from hd) Bool.false_ne_true
    | tuple l => exact absurd (show false = true from hd) Bool.false_ne_true
    | dict l => exact absurd (show false = true from hd) Bool.false_ne_true
  intro n
  induction n with
  | zero =>
    intro d hd
    have nd : ∀ ds, d ≠ .tuple ds := fun ds z => by rw [z] at hd; exact absurd hd (by simp [isW])
    rw [isW_leaf nd] at hd
    exact ⟨(leaf hd).1, Nat.le_of_eq (leaf hd).2⟩
  | succ n ih =>
    intro d hd
    rcases @notTup d with ⟨ds, rfl⟩ | nd
    · obtain ⟨m, em, _, kd⟩ := isW_tup hd
      cases em
      have key : ∀ ds : List PyData, (∀ d ∈ ds, isW n d = true) → PyData.canLayAll0 ds = true ∧ PyData.depthAll ds ≤ n := by
        intro ds
        induction ds with
        | nil => exact fun _ => ⟨rfl, by simp [PyData.depthAll]⟩
        | cons e es ihl =>
          intro h
          obtain ⟨h1, h2⟩ := ih (h e (List.mem_cons_self ..))
          obtain ⟨h3, h4⟩ := ihl fun z hz => h z (List.mem_cons_of_mem _ hz)
          refine ⟨by rw [PyData.canLayAll0, h1, h3]; rfl, ?_⟩
          rw [PyData.depthAll]; omega
      obtain ⟨h1, h2⟩ := key ds kd
      exact ⟨by rw [PyData.canLay0]; exact h1, by rw [PyData.depth]; omega⟩
    · rw [isW_leaf nd] at hd
      exact ⟨(leaf hd).1, by rw [(leaf hd).2]; omega⟩
theorem shaped_w {n : Nat} {d : PyData} (h : isW n d = true) (hn : n ≤ 60) : SeqAt.shaped d = true := by
  unfold SeqAt.shaped
  rw [(lay_w n h).1, Bool.true_and]
  exact decide_eq_true (by have := (lay_w n h).2; omega)
theorem dp_w {K : PySem.W.Frag} {H : Hp} : ∀ (n : Nat) {m : Nat} {v : V} {d : PyData}, isW n d = true → Rep H m v d → Dp K H v d := by
  have leaf : ∀ {T : V → List PyData → Prop} {v : V} {d : PyData}, leafW d = true → base H T v d → Dp K H v d := by
    intro T v d hd h
    cases d with
    | none => rw [show v = .non from h]; exact .non
    | int i => rw [show v = .int i from h]; exact .int i
    | str x => rw [show v = .str x from h]; exact .str x
    | bool b => exact absurd (show false = true from hd) Bool.false_ne_true
    | list l => exact absurd (show false = true from hd) Bool.false_ne_true
    | tuple l => exact absurd (show false = true from hd) Bool.false_ne_true
    | dict l => exact absurd (show false = true from hd) Bool.false_ne_true
  have leafR : ∀ {m : Nat} {v : V} {d : PyData}, leafW d = true → Rep H m v d → Dp K H v d := by
    intro m v d hd h
    cases m with
    | zero => exact leaf hd h
    | succ m => exact leaf hd h
  intro n
  induction n with
  | zero =>
    intro m v d hd h
    have nd : ∀ ds, d ≠ .tuple ds := fun ds z => by rw [z] at hd; exact absurd hd (by simp [isW])
    rw [isW_leaf nd] at hd
    exact leafR hd h
  | succ n ih =>
    intro m v d hd h
    rcases @notTup d with ⟨ds, rfl⟩ | nd
    · obtain ⟨k, ek, h20, kd⟩ := isW_tup hd
      cases ek
      cases m with
      | zero => exact (show False from h).elim
      | succ m =>
        obtain ⟨a, xs, rfl, ha, hp⟩ := (show ∃ a xs, v = .ref a ∧ H a = some (.tup xs) ∧ Paired (Rep H m) xs ds from h)
        refine .tup (SqT.of ha) ?_
        clear ha h hd h20
        induction hp with
        | nil => exact .nil
        | cons h1 h2 ihp => exact .cons (ih (kd _ (List.mem_cons_self ..)) h1) (ihp fun z hz => kd z (List.mem_cons_of_mem _ hz))
    · rw [isW_leaf nd] at hd
      exact leafR hd h
end My

set_option Elab.async false
set_option linter.all false
set_option maxRecDepth 100000
set_option maxHeartbeats 4000000
namespace My
open PySem PySem.W
open PySem.Sem (wp)
section
variable {prog : Program} {w : World} {z TI TO i1 i2 : Addr} {fp1 fp2 : List Addr} {n1 n2 : Nat} {P1 P2 : Nat → Value → Prop} {St1 St2 : Nat → Heap → Prop}
/-- one turn of a zip whose first pair is still held by somebody -/
theorem held_item {A : Around} {E : Value → Shared → Prop} {s : Shared} {i : Nat} {T : Addr} {f : Bool} {oT : Obj} {Q : Option Value → Shared → Prop} (S : ZipSep2 z TI TO i1 i2 fp1 fp2) (D1 : ∀ A : Around, A.handled = none → Draws prog w A i1 fp1 n1 P1 St1) (D2 : ∀ A : Around, A.handled = none → Draws prog w A i2 fp2 n2 P2 St2) (hA : A.handled = none)
    (hz : IsZipHeld s.heap z TI TO T f) (hT : s.heap.get? T = some oT) (hTI : IsTupOf2 s.heap TI (.ref i1) (.ref i2)) (st1 : St1 i s.heap) (st2 : St2 i s.heap) (hlt1 : i < n1) (hlt2 : i < n2)
    (hQ : ∀ x1 x2 h' tk, P1 i x1 → P2 i x2 → IsZipHeld h' z TI TO T true → St1 (i + 1) h' → St2 (i + 1) h' → IsTupOf2 h' s.heap.objs.size x1 x2 → h'.objs.size = s.heap.objs.size + 1 →
      (∀ c o, c ≠ z → c ≠ i1 → c ≠ i2 → s.heap.get? c = some o → h'.get? c = some o) → Q (some (.ref s.heap.objs.size)) { s with heap := h', toks := tk }) :
    wpAny (model prog w) A (pyNext (.ref z)) Q E s := by
  have hTy : s.TypeIs (.ref z) "zip" := ⟨_, hz, rfl⟩
  unfold pyNext
  refine wpAny_bind (wpAny_attempt (wpAny_callSpecial?_slot (name := Str.ofString "__next__") hTy F.slot_zip_next (wpAny_call_entry F.slot_zip_next hTy F.entry_zip_next ?_ (F.args_zip_next_1 _))))
  have d1 := D1 A.in1 hA
  have d2 := D2 A.in1 hA
  obtain ⟨hp, g, d, tk0, os⟩ := s
  show wpAny _ _ (field (.ref z) 2 >>= _) _ _ _
  refine wpAny_bind (wpAny_field hz rfl (x := .bool false) rfl ?_)
  show wpAny _ _ (field (.ref z) 3 >>= _) _ _ _
  refine wpAny_bind (wpAny_field hz rfl (x := .ref TI) rfl (wpAny_bind (wpAny_seqItems hTI rfl ?_)))
  show wpAny _ _ (Builtin.SmallTypes.ownedTupleIsFree (.ref z) >>= _) _ _ _
  refine wpAny_bind (wpAny_tupleHeld_zip (f := f) hz hT fun g0 hz0 hs0 => ?_)
  replace hs0 : Heap.SameBut z hp g0 := hs0
  simp only [Bool.false_eq_true, if_false]
  refine wpAny_bind ?_
  rw [← Array.forIn_toList]
  simp only [List.forIn_cons, List.forIn_nil]
  refine wpAny_bind (wpAny_bind (wpAny_holding ?_))
  show wpAny _ _ (Builtin.SmallTypes.nextOf (.ref i1) >>= _) _ _ ⟨g0, g, d, tk0, os⟩
  refine wpAny_bind (d1.item i ⟨g0, g, d, tk0, os⟩ _ _ hlt1 (d1.over st1 hs0 S.zf1) fun x1 p1 tk1 hx1 sn1 hp1 => wpAny_pure (wpAny_pure ?_))
  replace hp1 : Heap.SameBut i1 g0 p1 := hp1
  refine wpAny_bind (wpAny_bind (wpAny_holding ?_))
  show wpAny _ _ (Builtin.SmallTypes.nextOf (.ref i2) >>= _) _ _ ⟨p1, g, d, tk1, os⟩
  refine wpAny_bind (d2.item i ⟨p1, g, d, tk1, os⟩ _ _ hlt2 (d2.over (d2.over st2 hs0 S.zf2) hp1 S.sep1_2) fun x2 p2 tk2 hx2 sn2 hp2 => wpAny_pure (wpAny_pure (wpAny_pure ?_)))
  replace hp2 : Heap.SameBut i2 p1 p2 := hp2
  show wpAny _ _ (newTuple [x1, x2] >>= _) _ _ ⟨p2, g, d, tk2, os⟩
  refine wpAny_bind (wpAny_newTuple (wpAny_pure ⟨_, rfl, wpAny_pure ?_⟩))
  have hsz : p2.objs.size = hp.objs.size := by rw [hp2.1, hp1.1, hs0.1]
  show Q (some (.ref p2.objs.size)) ⟨p2.push { cls := .type "tuple", data := .seq #[x1, x2] }, g, d, tk2, os⟩
  have up : ∀ c o, p2.get? c = some o → (p2.push { cls := .type "tuple", data := .seq #[x1, x2] }).get? c = some o := fun c o e => Heap.get?_push_of_some _ e
  have hpair : IsTupOf2 (p2.push { cls := .type "tuple", data := .seq #[x1, x2] }) p2.objs.size x1 x2 := Heap.get?_push_size _ rfl
  have hnew : (p2.push { cls := .type "tuple", data := .seq #[x1, x2] }).objs.size = p2.objs.size + 1 := Heap.size_push ..
  have k1 := hQ x1 x2 (p2.push { cls := .type "tuple", data := .seq #[x1, x2] }) tk2 hx1 hx2 (up _ _ (hp2.extBut _ _ S.zi2 (hp1.extBut _ _ S.zi1 hz0)))
    (d1.frame _ _ _ (d1.over sn1 hp2 S.sep2_1) fun b _ o e => up b o e) (d2.frame _ _ _ sn2 fun b _ o e => up b o e)
  rw [hsz] at hpair hnew ⊢
  exact k1 hpair hnew fun c o c1 c2 c3 e => up c o (hp2.extBut _ _ c3 (hp1.extBut _ _ c2 (hs0.extBut _ _ c1 e)))
theorem held_end {A : Around} {E : Value → Shared → Prop} {s : Shared} {i : Nat} {T : Addr} {f : Bool} {oT : Obj} {Q : Option Value → Shared → Prop} (S : ZipSep2 z TI TO i1 i2 fp1 fp2) (D1 : ∀ A : Around, A.handled = none → Draws prog w A i1 fp1 n1 P1 St1) (D2 : ∀ A : Around, A.handled = none → Draws prog w A i2 fp2 n2 P2 St2) (hA : A.handled = none)
    (hz : IsZipHeld s.heap z TI TO T f) (hT : s.heap.get? T = some oT) (hTI : IsTupOf2 s.heap TI (.ref i1) (.ref i2)) (st1 : St1 i s.heap) (st2 : St2 i s.heap) (hle1 : i ≤ n1) (hle2 : i ≤ n2) (hend : i = n1 ∨ i = n2)
    (hQ : ∀ h' tk, (∀ c o, c ≠ z → c ≠ i1 → c ≠ i2 → s.heap.get? c = some o → h'.get? c = some o) → Q none { s with heap := h', toks := tk }) :
    wpAny (model prog w) A (pyNext (.ref z)) Q E s := by
  have hTy : s.TypeIs (.ref z) "zip" := ⟨_, hz, rfl⟩
  have d1 := D1 A.in1 hA
  have d2 := D2 A.in1 hA
  unfold pyNext
  obtain ⟨hp, g, d, tk0, os⟩ := s
  have stop : ∀ (q : Heap) (tk : Tok) (e : Addr), (∀ c o, c ≠ z → c ≠ i1 → c ≠ i2 → hp.get? c = some o → q.get? c = some o) → (∃ o, q.get? e = some o ∧ o.cls = .type "StopIteration") →
      wpAny (model prog w) A (isInstance (.ref e) (.type "StopIteration") >>= fun b => if b = true then pure none else throw (.ref e)) Q E ⟨q, g, d, tk, os⟩ := by
    rintro q tk e hk ⟨o, ho, hc⟩
    exact wpAny_bind (wpAny_isInstance (T := "StopIteration") (b := true) ⟨o, ho, hc⟩ isSubtype_stop (wpAny_pure (hQ q tk hk)))
  refine wpAny_bind (wpAny_attempt (wpAny_callSpecial?_slot (name := Str.ofString "__next__") hTy F.slot_zip_next (wpAny_call_entry F.slot_zip_next hTy F.entry_zip_next ?_ (F.args_zip_next_1 _))))
  show wpAny _ _ (field (.ref z) 2 >>= _) _ _ _
  refine wpAny_bind (wpAny_field hz rfl (x := .bool false) rfl ?_)
  show wpAny _ _ (field (.ref z) 3 >>= _) _ _ _
  refine wpAny_bind (wpAny_field hz rfl (x := .ref TI) rfl (wpAny_bind (wpAny_seqItems hTI rfl ?_)))
  show wpAny _ _ (Builtin.SmallTypes.ownedTupleIsFree (.ref z) >>= _) _ _ _
  refine wpAny_bind (wpAny_tupleHeld_zip (f := f) hz hT fun g0 hz0 hs0 => ?_)
  replace hs0 : Heap.SameBut z hp g0 := hs0
  simp only [Bool.false_eq_true, if_false]
  refine wpAny_bind ?_
  rw [← Array.forIn_toList]
  simp only [List.forIn_cons, List.forIn_nil]
  by_cases h1 : i < n1
  · refine wpAny_bind (wpAny_bind (wpAny_holding ?_))
    show wpAny _ _ (Builtin.SmallTypes.nextOf (.ref i1) >>= _) _ _ ⟨g0, g, d, tk0, os⟩
    refine wpAny_bind (d1.item i ⟨g0, g, d, tk0, os⟩ _ _ h1 (d1.over st1 hs0 S.zf1) fun x1 p1 tk1 hx1 sn1 hp1 => wpAny_pure (wpAny_pure ?_))
    replace hp1 : Heap.SameBut i1 g0 p1 := hp1
    have h2 : i = n2 := by omega
    refine wpAny_bind (wpAny_bind (wpAny_holding ?_))
    show wpAny _ _ (Builtin.SmallTypes.nextOf (.ref i2) >>= _) _ _ ⟨p1, g, d, tk1, os⟩
    refine wpAny_bind (d2.done ⟨p1, g, d, tk1, os⟩ _ _ (by rw [← h2]; exact d2.over (d2.over st2 hs0 S.zf2) hp1 S.sep1_2) fun q e hq he => ?_)
    exact stop q tk1 e (fun c o c1 c2 c3 x => hq _ _ c3 (hp1.extBut _ _ c2 (hs0.extBut _ _ c1 x))) he
  · have h2 : i = n1 := by omega
    refine wpAny_bind (wpAny_bind (wpAny_holding ?_))
    show wpAny _ _ (Builtin.SmallTypes.nextOf (.ref i1) >>= _) _ _ ⟨g0, g, d, tk0, os⟩
    refine wpAny_bind (d1.done ⟨g0, g, d, tk0, os⟩ _ _ (by rw [← h2]; exact d1.over st1 hs0 S.zf1) fun q e hq he => ?_)
    exact stop q tk0 e (fun c o c1 c2 c3 x => hq _ _ c2 (hs0.extBut _ _ c1 x)) he
theorem big {a b N : Nat} (h1 : a < N) (h2 : N ≤ b) : b ≠ a := Nat.ne_of_gt (Nat.lt_of_lt_of_le h1 h2)
/-- how the zip itself stands: no pair is out, or the first one is still held -/
def ZAt (z TI TO N0 : Nat) (i : Nat) (h : Heap) : Prop := (i = 0 ∧ IsZip h z TI TO .none ∧ ∃ a b, IsTupOf2 h TO a b) ∨ (∃ T f oT, N0 ≤ T ∧ h.get? T = some oT ∧ IsZipHeld h z TI TO T f)
def Made (P1 P2 : Nat → Value → Prop) (N0 : Nat) (h : Heap) (acc : Array Value) : Prop := (∀ j v, acc[j]? = some v → ∃ b x1 x2, v = .ref b ∧ N0 ≤ b ∧ P1 j x1 ∧ P2 j x2 ∧ IsTupOf2 h b x1 x2) ∧ ∀ (j k : Nat) (b c : Addr), j < k → acc[j]? = some (Value.ref b) → acc[k]? = some (Value.ref c) → b < c
theorem ext_zip {A : Around} {R : Result → Shared → Prop} (S : ZipSep2 z TI TO i1 i2 fp1 fp2) (D1 : ∀ A : Around, A.handled = none → Draws prog w A i1 fp1 n1 P1 St1) (D2 : ∀ A : Around, A.handled = none → Draws prog w A i2 fp2 n2 P2 St2) (hA : A.handled = none) (hn : min n1 n2 ≤ sizeLine)
    {L N0 : Addr} (Lz : L ≠ z) (LTI : L ≠ TI) (LTO : L ≠ TO) (L1 : L ∉ fp1) (L2 : L ∉ fp2) (zN : z < N0) (TIN : TI < N0) (TON : TO < N0) (i1N : i1 < N0) (i2N : i2 < N0) (LN : L < N0) (res : Value) :
    ∀ (k i : Nat) (s : Shared) (acc : Array Value) (c : Nat), min n1 n2 - i = k → i ≤ min n1 n2 → N0 ≤ s.heap.objs.size → ZAt z TI TO N0 i s.heap → IsTupOf2 s.heap TI (.ref i1) (.ref i2) → St1 i s.heap → St2 i s.heap →
    s.heap.get? L = some { cls := .type "list", dict := none, data := .seq acc c, slots := #[] } → acc.size = i → Made P1 P2 N0 s.heap acc →
    (∀ h' tk acc' c', (∀ b o, b < N0 → b ≠ z → b ≠ TO → b ≠ i1 → b ≠ i2 → b ≠ L → s.heap.get? b = some o → h'.get? b = some o) → h'.get? L = some { cls := .type "list", dict := none, data := .seq acc' c', slots := #[] } →
      acc'.size = min n1 n2 → Made P1 P2 N0 h' acc' → R (.ok (.ret res)) { s with heap := h', toks := tk }) →
    codeAny (model prog w) A (.builtin "list.extend.loop" ⟨[.ref L, .ref z, res], []⟩) R s := by
  have Li1 : L ≠ i1 := fun e => L1 (e ▸ S.mem1)
  have Li2 : L ≠ i2 := fun e => L2 (e ▸ S.mem2)
  intro k
  induction k with
  | zero =>
    intro i s acc c hk hi hN hZ hTI st1 st2 hL hsz hM hR
    have hin : i = min n1 n2 := by omega
    refine codeAny_builtin F.entry_extend_loop ?_
    rw [Around.under_plainId F.plain_extend_loop _]
    show wpAny _ A.in1 (pyNext (.ref z) >>= _) _ _ s
    have go : ∀ h' tk, (∀ c o, c ≠ z → c ≠ TO → c ≠ i1 → c ≠ i2 → s.heap.get? c = some o → h'.get? c = some o) → R (.ok (.ret res)) { s with heap := h', toks := tk } := fun h' tk hk' => by
      refine hR h' tk acc c (fun b o _ b1 b2 b3 b4 _ e => hk' b o b1 b2 b3 b4 e) (hk' _ _ Lz LTO Li1 Li2 hL) (by omega) ⟨fun j v e => ?_, hM.2⟩
      obtain ⟨b, x1, x2, ev, hb, p1, p2, ht⟩ := hM.1 j v e
      exact ⟨b, x1, x2, ev, hb, p1, p2, hk' _ _ (big zN hb) (big TON hb) (big i1N hb) (big i2N hb) ht⟩
    rcases hZ with ⟨e0, hz, a, b, hTO⟩ | ⟨T, f, oT, hTN, hT, hz⟩
    · refine wpAny_bind (wpAny_pyNext_zipD2_end S (D1 A.in1.in1 hA) (D2 A.in1.in1 hA) hz hTI hTO st1 st2 (by omega) (by omega) (by omega) fun h' tk hk' => wpAny_pure (go h' tk hk'))
    · refine wpAny_bind (held_end (A := A.in1) S D1 D2 hA hz hT hTI st1 st2 (by omega) (by omega) (by omega) fun h' tk hk' => wpAny_pure (go h' tk fun c o c1 _ c3 c4 e => hk' c o c1 c3 c4 e))
  | succ k ih =>
    intro i s acc c hk hi hN hZ hTI st1 st2 hL hsz hM hR
    have hlt : i < min n1 n2 := by omega
    refine codeAny_builtin F.entry_extend_loop ?_
    rw [Around.under_plainId F.plain_extend_loop _]
    show wpAny _ A.in1 (pyNext (.ref z) >>= _) _ _ s
    have go : ∀ x1 x2 h' tk, P1 i x1 → P2 i x2 → (∃ T f oT, N0 ≤ T ∧ h'.get? T = some oT ∧ IsZipHeld h' z TI TO T f) → St1 (i + 1) h' → St2 (i + 1) h' → IsTupOf2 h' s.heap.objs.size x1 x2 → h'.objs.size = s.heap.objs.size + 1 →
        (∀ c o, c ≠ z → c ≠ TO → c ≠ i1 → c ≠ i2 → s.heap.get? c = some o → h'.get? c = some o) →
        wpAny (model prog w) A.in1 (updateSeq L (·.push (.ref s.heap.objs.size)) >>= fun _ => again (.builtin "list.extend.loop" ⟨[.ref L, .ref z, res], []⟩)) (fun fin s' => match fin with | .done f => R (.ok f) s' | .again c' => c'.quiet = true ∧ codeAny (model prog w) A c' R s') (fun e s' => R (.error e) s') { s with heap := h', toks := tk } := by
      intro x1 x2 h' tk q1 q2 hz' sn1 sn2 hpair hs' hk'
      have hL' := hk' _ _ Lz LTO Li1 Li2 hL
      refine wpAny_bind (wpAny_updateSeq (s := { s with heap := h', toks := tk }) hL' rfl (wpAny_pure ⟨plainId_quiet F.plain_extend_loop _, ?_⟩) (by rw [hsz]; omega) (by show (acc.push _).size ≤ sizeLine + 1; rw [Array.size_push, hsz]; omega))
      have up : ∀ b o, b ≠ L → h'.get? b = some o → (h'.update L (Obj.mapSeq (·.push (.ref s.heap.objs.size)))).get? b = some o := fun b o hb e => (Heap.get?_update_other _ _ (Ne.symm hb)).trans e
      have hTI' := up _ _ (Ne.symm LTI) (hk' _ _ S.TIz S.TITO S.TIi1 S.TIi2 hTI)
      refine ih (i + 1) { s with heap := h'.update L (Obj.mapSeq (·.push (.ref s.heap.objs.size))), toks := tk } (acc.push (.ref s.heap.objs.size)) _ (by omega) hlt ?_ (.inr ?_) hTI' ?_ ?_ (Heap.get?_update_self _ hL' rfl) (by rw [Array.size_push, hsz]) ?_ ?_
      · show N0 ≤ (h'.update L _).objs.size
        rw [Heap.size_update, hs']; exact Nat.le_succ_of_le hN
      · obtain ⟨T, f, oT, hTN, hT, hz⟩ := hz'
        exact ⟨T, f, oT, hTN, up _ _ (big LN hTN) hT, up _ _ (Ne.symm Lz) hz⟩
      · exact (D1 A.in1 hA).frame _ _ _ sn1 fun b hb o e => up b o (fun q => L1 (q ▸ hb)) e
      · exact (D2 A.in1 hA).frame _ _ _ sn2 fun b hb o e => up b o (fun q => L2 (q ▸ hb)) e
      · refine ⟨fun j v e => ?_, fun j k b d hjk e1 e2 => ?_⟩
        rotate_left
        · rw [Array.getElem?_push] at e1 e2
          split at e1
          · rename_i ej
            have hk2 : k < acc.size := by
              split at e2
              · rename_i ek; omega
              · exact (Array.getElem?_eq_some_iff.mp e2).1
            omega
          · split at e2
            · rename_i ek
              cases e2
              obtain ⟨b', x1', x2', ev, hb, p1, p2, ht⟩ := hM.1 j _ e1
              cases ev
              exact Heap.lt_size ht
            · exact hM.2 j k b d hjk e1 e2
        rw [Array.getElem?_push] at e
        split at e
        · rename_i ej
          cases e
          rw [hsz] at ej
          subst ej
          exact ⟨_, x1, x2, rfl, hN, q1, q2, up _ _ (big LN hN) hpair⟩
        · obtain ⟨b, y1, y2, ev, hb, p1, p2, ht⟩ := hM.1 j v e
          exact ⟨b, y1, y2, ev, hb, p1, p2, up _ _ (big LN hb) (hk' _ _ (big zN hb) (big TON hb) (big i1N hb) (big i2N hb) ht)⟩
      · intro h'' tk'' acc' c' hk'' hL'' hsz'' hM''
        exact hR h'' tk'' acc' c' (fun b o hb b1 b2 b3 b4 b5 e => hk'' b o hb b1 b2 b3 b4 b5 (up _ _ b5 (hk' _ _ b1 b2 b3 b4 e))) hL'' hsz'' hM''
    rcases hZ with ⟨e0, hz, a, b, hTO⟩ | ⟨T, f, oT, hTN, hT, hz⟩
    · exact wpAny_bind (wpAny_pyNext_zipD2_item S (D1 A.in1.in1 hA) (D2 A.in1.in1 hA) hz hTI hTO st1 st2 (by omega) (by omega) fun x1 x2 h' tk q1 q2 hz' _ sn1 sn2 hp hs' hk' => go x1 x2 h' tk q1 q2 ⟨_, false, _, hN, hp, hz'⟩ sn1 sn2 hp hs' hk')
    · exact wpAny_bind (held_item (A := A.in1) S D1 D2 hA hz hT hTI st1 st2 (by omega) (by omega) fun x1 x2 h' tk q1 q2 hz' sn1 sn2 hp hs' hk' => go x1 x2 h' tk q1 q2 ⟨T, true, oT, hTN, hk' _ _ (big zN hTN) (big i1N hTN) (big i2N hTN) hT, hz'⟩ sn1 sn2 hp hs' fun c o c1 _ c3 c4 e => hk' c o c1 c3 c4 e)
end
end My

set_option Elab.async false
set_option linter.all false
set_option maxRecDepth 100000
set_option maxHeartbeats 4000000
namespace My
open PySem PySem.W
open PySem.Sem (wp)
theorem zip_no_len : typeLookup (.type "zip") "__len__" = pure none := by rw [typeLookup_type, builtinLookup_eq_fast]; kernel_rfl
theorem zip_no_hint : typeLookup (.type "zip") "__length_hint__" = pure none := by rw [typeLookup_type, builtinLookup_eq_fast]; kernel_rfl
section
variable {prog : Program} {w : World} {z TI TO i1 i2 : Addr} {fp1 fp2 : List Addr} {n1 n2 : Nat} {P1 P2 : Nat → Value → Prop} {St1 St2 : Nat → Heap → Prop}
/-- list(z) of a zip of which nothing was drawn yet -/
theorem list_zip {A : Around} {E : Value → Shared → Prop} {s : Shared} {Q : Value → Shared → Prop} (S : ZipSep2 z TI TO i1 i2 fp1 fp2) (D1 : ∀ A : Around, A.handled = none → Draws prog w A i1 fp1 n1 P1 St1) (D2 : ∀ A : Around, A.handled = none → Draws prog w A i2 fp2 n2 P2 St2) (hA : A.handled = none) (hn : min n1 n2 ≤ sizeLine)
    {a b : Value} (hz : IsZip s.heap z TI TO .none) (hTI : IsTupOf2 s.heap TI (.ref i1) (.ref i2)) (hTO : IsTupOf2 s.heap TO a b) (st1 : St1 0 s.heap) (st2 : St2 0 s.heap) (f1 : ∀ c ∈ fp1, c < s.heap.objs.size) (f2 : ∀ c ∈ fp2, c < s.heap.objs.size)
    (hQ : ∀ h' tk acc c', (∀ b o, b < s.heap.objs.size → b ≠ z → b ≠ TO → b ≠ i1 → b ≠ i2 → s.heap.get? b = some o → h'.get? b = some o) → h'.get? s.heap.objs.size = some { cls := .type "list", dict := none, data := .seq acc c', slots := #[] } →
      acc.size = min n1 n2 → Made P1 P2 (s.heap.objs.size + 1) h' acc → Q (.ref s.heap.objs.size) { s with heap := h', toks := tk }) :
    wpAny (model prog w) A (call (.type "list") [.ref z]) Q E s := by
  refine callType_codes (Q₁ := fun obj s₁ => obj = .ref s.heap.objs.size ∧ s₁ = { s with heap := s.heap.push { cls := .type "list", data := .seq #[] } }) PySem.F.called_list (PySem.F.typeCall_list_1 _) PySem.F.entry_list_init
    (code_list_new _ ⟨rfl, rfl⟩) fun obj s₁ h₁ => ?_
  obtain ⟨rfl, rfl⟩ := h₁
  have zN : z < s.heap.objs.size := Heap.lt_size hz
  have TIN : TI < s.heap.objs.size := Heap.lt_size hTI
  have TON : TO < s.heap.objs.size := Heap.lt_size hTO
  have i1N := f1 _ S.mem1
  have i2N := f2 _ S.mem2
  generalize hL : s.heap.objs.size = L at *
  have hS : (s.heap.push { cls := .type "list", data := .seq #[] }).get? L = some { cls := .type "list", data := .seq #[] } := by rw [← hL]; exact Heap.get?_push_size _ rfl
  have hS1 : (s.heap.push { cls := .type "list", data := .seq #[] }).objs.size = L + 1 := by rw [Heap.size_push, hL]
  refine ⟨⟨_, hS, rfl⟩, PySem.F.args_list_init_2 _ _, ?_⟩
  have key : ∀ (h : Heap) (c₁ : Nat) (tk : Tok), h.objs.size = L + 1 → (∀ b o, b ≠ L → s.heap.get? b = some o → h.get? b = some o) → h.get? L = some { cls := .type "list", data := .seq #[] c₁ } →
      codeAny (model prog w) A.in1 (.builtin "list.extend.loop" ⟨[.ref L, .ref z, .none], []⟩) (wants (fun r s₂ => r = Value.none ∧ Q (.ref L) s₂) E) { s with heap := h, toks := tk } := by
    intro h c₁ tk hsz hk hS₁
    have ne : ∀ {c : Addr}, c < L → c ≠ L := fun q => Nat.ne_of_lt q
    refine ext_zip (A := A.in1) (N0 := L + 1) S D1 D2 hA hn (Nat.ne_of_gt zN) (Nat.ne_of_gt TIN) (Nat.ne_of_gt TON) (fun q => Nat.lt_irrefl _ (f1 _ q)) (fun q => Nat.lt_irrefl _ (f2 _ q)) (Nat.lt_succ_of_lt zN) (Nat.lt_succ_of_lt TIN) (Nat.lt_succ_of_lt TON) (Nat.lt_succ_of_lt i1N) (Nat.lt_succ_of_lt i2N) (Nat.lt_succ_self L) .none
      (min n1 n2) 0 { s with heap := h, toks := tk } #[] c₁ rfl (Nat.zero_le _) (Nat.le_of_eq hsz.symm) (.inl ⟨rfl, hk _ _ (ne zN) hz, a, b, hk _ _ (ne TON) hTO⟩) (hk _ _ (ne TIN) hTI)
      ((D1 A hA).frame _ _ _ st1 fun c hc o e => hk c o (ne (f1 c hc)) e) ((D2 A hA).frame _ _ _ st2 fun c hc o e => hk c o (ne (f2 c hc)) e) hS₁ rfl ⟨fun j v e => by simp at e, fun j k b d _ e _ => by simp at e⟩ ?_
    intro h' tk' acc' c' hk' hL' hsz' hM'
    exact ⟨rfl, hQ h' tk' acc' c' (fun b o hb b1 b2 b3 b4 e => hk' b o (Nat.lt_succ_of_lt hb) b1 b2 b3 b4 (ne hb) (hk _ _ (ne hb) e)) hL' hsz' hM'⟩
  show wpAny _ _ (do let old ← Builtin.List.listItems (.ref L); Builtin.List.listUpdate (.ref L) (fun _ => #[]); letGo old.toList.reverse; Builtin.List.listExtendWith (.ref L) (.ref z) .none) _ _ _
  refine wpAny_bind ?_
  unfold Builtin.List.listItems
  refine wpAny_bind (wpAny_seqItems hS rfl (wpAny_pure ?_))
  show wpAny _ _ (updateSeq L (fun _ => #[]) >>= fun _ => letGo (#[] : Array Value).toList.reverse >>= fun _ => Builtin.List.listExtendWith (.ref L) (.ref z) .none) _ _ _
  refine wpAny_bind (wpAny_updateSeq hS rfl (wpAny_bind (wpAny_letGo ?_)))
  have u1 := Heap.get?_update_self (Obj.mapSeq (fun _ => (#[] : Array Value))) hS rfl
  have k1 : ∀ b o, b ≠ L → s.heap.get? b = some o → ((s.heap.push { cls := .type "list", data := .seq #[] }).update L (Obj.mapSeq (fun _ => (#[] : Array Value)))).get? b = some o :=
    fun b o hb e => (Heap.get?_update_other _ _ (Ne.symm hb)).trans (Heap.get?_push_of_some _ e)
  have z1 : ((s.heap.push { cls := .type "list", data := .seq #[] }).update L (Obj.mapSeq (fun _ => (#[] : Array Value)))).objs.size = L + 1 := by rw [Heap.size_update, hS1]
  generalize ((s.heap.push { cls := .type "list", data := .seq #[] }).update L (Obj.mapSeq (fun _ => (#[] : Array Value)))) = g1 at u1 k1 z1 ⊢
  have hT : ∀ (h : Heap) (tk : Tok), (∀ b o, b ≠ L → s.heap.get? b = some o → h.get? b = some o) → Shared.TypeIs { s with heap := h, toks := tk } (.ref z) "zip" := fun h tk hk => ⟨_, hk _ _ (Nat.ne_of_lt zN) hz, rfl⟩
  unfold Builtin.List.listExtendWith
  refine wpAny_bind (wpAny_typeOf (hT g1 s.toks k1) ?_)
  have e1 : Builtin.List.listSameRef (.ref L) (.ref z) = false := by simp [Builtin.List.listSameRef, Nat.ne_of_gt zN]
  have e2 : (Value.type "zip" == Value.type "list") = false := by decide
  have e3 : (Value.type "zip" == Value.type "tuple") = false := by decide
  simp only [e1, e2, e3, Bool.or_false, Bool.false_eq_true, if_false]
  refine wpAny_bind (wpAny_pyIter_zip (k1 _ _ (Nat.ne_of_lt zN) hz) ?_)
  refine wpAny_bind (wpAny_holding ?_)
  unfold Builtin.List.listLengthHint
  refine wpAny_bind (wpAny_specialOf (hT g1 s.toks k1) zip_no_len ?_)
  show wpAny _ _ (specialOf (Value.ref z) (Str.ofString "__length_hint__") >>= _) _ _ _
  refine wpAny_bind (wpAny_specialOf (hT g1 s.toks k1) zip_no_hint (wpAny_pure ?_))
  show wpAny _ _ (rule "list.extend.makes-room" >>= fun _ => Builtin.List.listTouch (.ref L) >>= fun _ => again (.builtin "list.extend.loop" ⟨[.ref L, .ref z, .none], []⟩)) _ _ _
  refine wpAny_bind (wpAny_rule (wpAny_bind ?_))
  show wpAny _ _ (updateSeq L (·.push .none) >>= fun _ => updateSeq L (·.pop)) _ _ _
  refine wpAny_bind (wpAny_updateSeq u1 rfl ?_)
  have u2 := Heap.get?_update_self (Obj.mapSeq (·.push Value.none)) u1 rfl
  refine wpAny_updateSeq (hz := by seq_fits) u2 rfl ?_
  have u3 := Heap.get?_update_self (Obj.mapSeq (·.pop)) u2 rfl
  exact wpAny_pure ⟨plainId_quiet F.plain_extend_loop _, key _ _ _ (by rw [Heap.size_update, Heap.size_update, z1]) (fun b o hb e => (Heap.get?_update_other _ _ (Ne.symm hb)).trans ((Heap.get?_update_other _ _ (Ne.symm hb)).trans (k1 b o hb e))) u3⟩
end
end My

set_option Elab.async false
set_option linter.all false
set_option maxRecDepth 100000
set_option maxHeartbeats 4000000
namespace My
open PySem PySem.W PySem.Spec PyProof.Rows L2
def putT (H : Hp) : List Addr → List V → List V → Hp
  | t :: ts, x :: xs, y :: ys => upd (putT H ts xs ys) t (.tup [x, y])
  | _, _, _ => H
theorem putT_old {H : Hp} {b : Addr} : ∀ {ts : List Addr} {xs ys : List V}, b ∉ ts → putT H ts xs ys b = H b
  | [], _, _, _ => rfl
  | _ :: _, [], _, _ => rfl
  | _ :: _, _ :: _, [], _ => rfl
  | t :: ts, x :: xs, y :: ys, h => by
    have e : b ≠ t := fun e => h (by rw [e]; exact List.mem_cons_self)
    rw [putT, upd_ne e]
    exact putT_old fun q => h (List.mem_cons_of_mem _ q)
theorem putT_inv {H : Hp} {b : Addr} {o : HO} : ∀ {ts : List Addr} {xs ys : List V}, putT H ts xs ys b = some o → H b = some o ∨ ∃ (j : Nat) (x y : V), ts[j]? = some b ∧ xs[j]? = some x ∧ ys[j]? = some y ∧ o = .tup [x, y]
  | [], _, _, h => .inl h
  | _ :: _, [], _, h => .inl h
  | _ :: _, _ :: _, [], h => .inl h
  | t :: ts, x :: xs, y :: ys, h => by
    rw [putT] at h
    by_cases e : b = t
    · subst e
      rw [upd_same] at h
      exact .inr ⟨0, x, y, rfl, rfl, rfl, (Option.some.inj h).symm⟩
    · rw [upd_ne e] at h
      rcases putT_inv h with q | ⟨j, u, v, q1, q2, q3, q4⟩
      · exact .inl q
      · exact .inr ⟨j + 1, u, v, q1, q2, q3, q4⟩
theorem putT_at {H : Hp} : ∀ {ts : List Addr} {xs ys : List V} {j : Nat} {t : Addr} {x y : V}, ts.Pairwise (· < ·) → ts[j]? = some t → xs[j]? = some x → ys[j]? = some y → putT H ts xs ys t = some (.tup [x, y])
  | [], _, _, _, _, _, _, _, h, _, _ => by simp at h
  | _ :: _, [], _, _, _, _, _, _, _, h, _ => by simp at h
  | _ :: _, _ :: _, [], _, _, _, _, _, _, _, h => by simp at h
  | t :: ts, x :: xs, y :: ys, 0, _, _, _, _, h1, h2, h3 => by
    simp only [List.getElem?_cons_zero, Option.some.injEq] at h1 h2 h3
    rw [putT, h1, h2, h3, upd_same]
  | t :: ts, x :: xs, y :: ys, j + 1, t', _, _, p, h1, h2, h3 => by
    rw [List.pairwise_cons] at p
    rw [putT, upd_ne (Nat.ne_of_gt (p.1 t' (List.mem_of_getElem? (by simpa using h1))))]
    exact putT_at p.2 (by simpa using h1) (by simpa using h2) (by simpa using h3)
theorem refs_of : ∀ l : List Value, (∀ v ∈ l, ∃ b : Addr, v = .ref b) → ∃ ts : List Addr, l = ts.map Value.ref
  | [], _ => ⟨[], rfl⟩
  | v :: l, h => by
    obtain ⟨b, rfl⟩ := h v List.mem_cons_self
    obtain ⟨ts, rfl⟩ := refs_of l fun u hu => h u (List.mem_cons_of_mem _ hu)
    exact ⟨b :: ts, rfl⟩
/-- the abstract heap behind list(zip(..)) -/
def zipH (H : Hp) (L : Addr) (ts : List Addr) (xs ys : List V) : Hp := upd (putT H ts xs ys) L (.lst (ts.map V.ref))
def tLstZip (K : PySem.W.Frag) (ta : TA) : TE := fun σ H Q => ta σ H fun vs H1 => ∃ a b xs ys, vs = [.ref a, .ref b] ∧ SqT K H1 a xs ∧ SqT K H1 b ys ∧
  ∀ (q : Addr) (ts : List Addr) (H2 : Hp), Same H1 H2 → H2 q = some (.lst (ts.map V.ref)) → ts.length = min xs.length ys.length → (∀ (j : Nat) (t : Addr) (x y : V), ts[j]? = some t → xs[j]? = some x → ys[j]? = some y → H2 t = some (.tup [x, y])) → Q (.ref q) H2
theorem pe_listZip {X : Cx} {e e2 : Expr} {ta : TA} {p p2 pos pos2 : Pos} (hc : X.calm = true) (hg : Gl X "list") (hm : X.mg "list" = none) (hgz : Gl X "zip") (hmz : X.mg "zip" = none) (ha : PA X [e, e2] ta)
    (hs : starEach [e, e2] X.env = (false, eval e X.env) :: starEach [e2] X.env := by rfl) (hpl : (backTo pos2 (starEach [e2] X.env)).any (·.1) = false := by rfl)
    (na : starEach [Expr.Call (.Name "zip" p2) [e, e2] [] pos2] X.env = (false, eval (.Call (.Name "zip" p2) [e, e2] [] pos2) X.env) :: starEach [] X.env := by rfl) :
    PE X (.Call (.Name "list" p) [.Call (.Name "zip" p2) [e, e2] [] pos2] [] pos) (tLstZip X.K ta) := by
  refine ⟨fun pins s σ H Q I h => ?_⟩
  have inner : wpAny (model X.prog X.w) X.A (eval (.Call (.Name "zip" p2) [e, e2] [] pos2) X.env) (fun x s' => ∃ (s1 : Shared) (h' : Heap) (H1 : Hp) (a b : Addr) (xs ys : List V) (its its2 : List Value),
      s' = { s1 with heap := h' } ∧ x = .ref (s1.heap.objs.size + 4) ∧ Inv X pins σ H1 s1 ∧ Vals xs its ∧ Vals ys its2 ∧ s1.heap.IsTuple a its.toArray ∧ s1.heap.IsTuple b its2.toArray ∧ its.length ≤ sizeLine ∧
      IsZip h' (s1.heap.objs.size + 4) (s1.heap.objs.size + 2) (s1.heap.objs.size + 3) .none ∧ IsPair h' (s1.heap.objs.size + 2) (.ref s1.heap.objs.size) (.ref (s1.heap.objs.size + 1)) ∧ IsPair h' (s1.heap.objs.size + 3) .none .none ∧
      h'.IsTupleIter s1.heap.objs.size a 0 ∧ h'.IsTupleIter (s1.heap.objs.size + 1) b 0 ∧ h'.objs.size = s1.heap.objs.size + 5 ∧ (∀ c o, s1.heap.get? c = some o → h'.get? c = some o) ∧
      ∀ (q : Addr) (ts : List Addr) (H2 : Hp), Same H1 H2 → H2 q = some (.lst (ts.map V.ref)) → ts.length = min xs.length ys.length → (∀ (j : Nat) (t : Addr) (x y : V), ts[j]? = some t → xs[j]? = some x → ys[j]? = some y → H2 t = some (.tup [x, y])) → Q (.ref q) H2) X.xe s := by
    refine Call_ (ld_blt I hgz hmz PyProof.Rows.boot_zip (PyProof.Rows.callWith_type1 (thn (ha.run pos2 pins s σ H _ I h) fun us s1 ⟨vs, H1, I1, r1, q1⟩ => ?_) hs hpl))
    obtain ⟨a, b, xs, ys, ex, hx, hy, q⟩ := q1
    subst ex
    cases r1 with
    | cons r rr =>
      cases rr with
      | cons r' rr =>
        cases rr
        cases r
        cases r'
        obtain ⟨its, rv, t1, z1⟩ := I1.tuple hx
        obtain ⟨its2, rv2, t2, _⟩ := I1.tuple hy
        have l1 := rv.length
        exact RZ.call_zipT (show s1.heap.IsTuple a its.toArray from t1) (show s1.heap.IsTuple b its2.toArray from t2) fun h' hz hTI hTO h1 h2 hsz hk => ⟨s1, h', H1, a, b, xs, ys, its, its2, rfl, rfl, I1, rv, rv2, t1, t2, by omega, hz, hTI, hTO, h1, h2, hsz, hk, q⟩
  refine Call_ (ld_blt I hg hm boot_list (PyProof.Rows.callWith_type1 (args_cons (thn inner fun x s' hx => args_nil ?_) na) na))
  obtain ⟨s1, h', H1, a, b, xs, ys, its, its2, rfl, rfl, I1, rv, rv2, t1, t2, hlen, hz, hTI, hTO, h1, h2, hsz, hk, q⟩ := hx
  obtain ⟨o1, g1, _⟩ := id t1
  obtain ⟨o2, g2, _⟩ := id t2
  have aN : a < s1.heap.objs.size := Heap.lt_size g1
  have bN : b < s1.heap.objs.size := Heap.lt_size g2
  have S := zip_sep2 (N := s1.heap.objs.size) (fp1 := [a]) (fp2 := [b]) (fun c hc => by rw [List.mem_singleton.mp hc]; exact aN) (fun c hc => by rw [List.mem_singleton.mp hc]; exact bN)
  have l1 := rv.length
  have l2 := rv2.length
  refine list_zip (s := { s1 with heap := h' }) S (fun A hh => Draws.tuple hh s1.heap.objs.size a (Nat.ne_of_lt aN) its.toArray) (fun A hh => Draws.tuple hh (s1.heap.objs.size + 1) b (Nat.ne_of_lt (Nat.lt_succ_of_lt bN)) its2.toArray) (I1.ok.hd hc)
    (by rw [List.size_toArray]; omega) hz hTI hTO ⟨h1, t1.at fun o e => hk _ o e⟩ ⟨h2, t2.at fun o e => hk _ o e⟩ ?_ ?_ ?_
  · intro c hc
    show c < h'.objs.size
    rw [hsz]
    rcases List.mem_cons.mp hc with e | e
    · rw [e]; exact Nat.lt_add_of_pos_right (by decide)
    · rw [List.mem_singleton.mp e]; exact Nat.lt_of_lt_of_le aN (Nat.le_add_right _ _)
  · intro c hc
    show c < h'.objs.size
    rw [hsz]
    rcases List.mem_cons.mp hc with e | e
    · rw [e]; exact Nat.add_lt_add_left (by decide) _
    · rw [List.mem_singleton.mp e]; exact Nat.lt_of_lt_of_le bN (Nat.le_add_right _ _)
  · intro hf tk acc c' keep hL hacc hM
    obtain ⟨ts, hts⟩ := refs_of acc.toList fun v hv => by
      obtain ⟨j, hj⟩ := List.getElem?_of_mem hv
      obtain ⟨t, _, _, ev, _⟩ := hM.1 j v (by rw [← Array.getElem?_toList]; exact hj)
      exact ⟨t, ev⟩
    have at_ : ∀ (j : Nat) (t : Addr), ts[j]? = some t → acc[j]? = some (Value.ref t) := fun j t e => by
      rw [← Array.getElem?_toList, hts, List.getElem?_map, e]; rfl
    have big' : ∀ (j : Nat) (t : Addr), ts[j]? = some t → h'.objs.size + 1 ≤ t := fun j t e => by
      obtain ⟨b', _, _, ev, hb, _⟩ := hM.1 j _ (at_ j t e)
      cases ev
      exact hb
    have inc : ts.Pairwise (· < ·) := by
      rw [List.pairwise_iff_getElem]
      intro i j hi hj hij
      exact hM.2 i j _ _ hij (at_ i _ (List.getElem?_eq_getElem hi)) (at_ j _ (List.getElem?_eq_getElem hj))
    have hlt : ts.length = min xs.length ys.length := by
      have e1 : ts.length = acc.toList.length := by rw [hts, List.length_map]
      rw [e1, Array.length_toList, hacc, List.size_toArray, List.size_toArray, l1, l2]
    have notL : h'.objs.size ∉ ts := fun q => by
      obtain ⟨j, hj⟩ := List.getElem?_of_mem q
      exact Nat.not_succ_le_self _ (big' j _ hj)
    have small : ∀ c : Addr, c < s1.heap.objs.size → zipH H1 h'.objs.size ts xs ys c = H1 c := fun c hc => by
      have c1 : c ≠ h'.objs.size := Nat.ne_of_lt (Nat.lt_of_lt_of_le hc (by rw [hsz]; exact Nat.le_add_right _ _))
      have c2 : c ∉ ts := fun q => by
        obtain ⟨j, hj⟩ := List.getElem?_of_mem q
        have g := big' j _ hj
        rw [hsz] at g
        exact absurd (Nat.lt_of_lt_of_le hc (Nat.le_trans (Nat.le_add_right _ 6) g)) (Nat.lt_irrefl _)
      unfold zipH
      rw [upd_ne c1, putT_old c2]
    have kk : ∀ c o, s1.heap.get? c = some o → hf.get? c = some o := fun c o e => by
      have hcN : c < s1.heap.objs.size := Heap.lt_size e
      have g : ∀ n : Nat, c ≠ s1.heap.objs.size + n := fun n => Nat.ne_of_lt (Nat.lt_of_lt_of_le hcN (Nat.le_add_right _ n))
      exact keep c o (by show c < h'.objs.size; rw [hsz]; exact Nat.lt_of_lt_of_le hcN (Nat.le_add_right _ 5)) (g 4) (g 3) (g 0) (g 1) (hk c o e)
    have old : ∀ c u, H1 c = some u → zipH H1 h'.objs.size ts xs ys c = some u := fun c u e => by rw [small c (I1.hok.lt e)]; exact e
    have hq : zipH H1 h'.objs.size ts xs ys h'.objs.size = some (.lst (ts.map V.ref)) := upd_same
    have hT : ∀ (j : Nat) (t : Addr) (x y : V), ts[j]? = some t → xs[j]? = some x → ys[j]? = some y → zipH H1 h'.objs.size ts xs ys t = some (.tup [x, y]) := fun j t x y e1 e2 e3 => by
      have ht : t ≠ h'.objs.size := Nat.ne_of_gt (big' j t e1)
      unfold zipH
      rw [upd_ne ht]
      exact putT_at inc e1 e2 e3
    refine ⟨.ref h'.objs.size, zipH H1 h'.objs.size ts xs ys, I1.un (t' := tk) (h' := hf) ⟨fun c o e _ _ _ => kk c o e, fun c o e _ _ _ => ⟨o.slots, kk c o e⟩, fun c o e n _ => by rw [small c (Heap.lt_size e)]; exact n, fun c o e _ => ⟨o, kk c o e⟩, fun c us e => old c _ e, fun c o u e => old c _ e, fun c ps e => ⟨#[], by rw [old c _ e]; simp⟩⟩ ?_, rfl, q _ ts _ old hq hlt hT⟩
    intro c u e
    by_cases hc' : c = h'.objs.size
    · subst hc'
      rw [hq] at e
      cases e
      refine ⟨by rw [List.length_map, hlt]; omega, acc.toList, c', ?_, by rw [Array.toArray_toList]; exact hL⟩
      rw [hts]
      exact vals_refs ts
    · unfold zipH at e
      rw [upd_ne hc'] at e
      rcases putT_inv e with e | ⟨j, x, y, j1, j2, j3, rfl⟩
      · exact (I1.hok c u e).stay (fun d v _ g => kk d v g) (fun d g => old d _ g) fun d us g => old d _ g
      · obtain ⟨b', x1, x2, ev, hb, p1, p2, ht⟩ := hM.1 j _ (at_ j c j1)
        cases ev
        obtain ⟨u1, w1, v1⟩ := rv.get j2
        obtain ⟨u2, w2, v2⟩ := rv2.get j3
        have e1 : u1 = x1 := Option.some.inj (w1.symm.trans (by simpa using p1))
        have e2 : u2 = x2 := Option.some.inj (w2.symm.trans (by simpa using p2))
        subst e1 e2
        exact ⟨by show 2 ≤ sizeLine; decide, [u1, u2], .cons v1 (.cons v2 .nil), ⟨_, ht, rfl, _, rfl⟩⟩
end My

set_option Elab.async false
set_option linter.all false
set_option maxRecDepth 100000
set_option maxHeartbeats 4000000
namespace My
open PySem PySem.W PySem.Spec PyProof.Rows L2
/-- zip of a text and a tuple as it stands -/
def ItzS (K : PySem.W.Frag) (x : Str) (b : Addr) (ys : List V) : It :=
  ⟨fun i H => SqT K H b ys ∧ i < x.cps.size ∧ i < ys.length,
    fun i H v H' => ∃ T c y, v = .ref T ∧ H T = none ∧ H' = upd H T (.tup [.str ⟨#[c]⟩, y]) ∧ x.cps[i]? = some c ∧ ys[i]? = some y,
    fun i H => SqT K H b ys ∧ (x.cps.size ≤ i ∨ ys.length ≤ i)⟩
theorem turn_zipS {P : Program} {w : World} {K : PySem.W.Frag} {elts : List Expr} {kk : Nat} {tpos : Pos} {N b : Addr} {x : Str} {t : Tok} {ys : List V} (bN : b < N) :
    Turn P w K (.Tuple elts kk tpos) (ItzS K x b ys) [N + 4, N + 2, N + 3, N, N + 1] (N + 4) (fun i h => IsZip h (N + 4) (N + 2) (N + 3) .none ∧ IsTupOf2 h (N + 2) (.ref N) (.ref (N + 1)) ∧ (∃ a1 a2, IsTupOf2 h (N + 3) a1 a2) ∧ h.IsStrIter N (strIterType x) x t i ∧ h.IsTupleIter (N + 1) b i ∧ i ≤ x.cps.size ∧ i ≤ ys.length) where
  mem := by simp
  obj := fun i h st c hc => by
    obtain ⟨hz, hTI, ⟨a1, a2, hTO⟩, ⟨o1, e1, _, d1⟩, ⟨o2, e2, _, d2⟩, _, _⟩ := st
    have e' : c = N + 4 ∨ c = N + 2 ∨ c = N + 3 ∨ c = N ∨ c = N + 1 := by simpa using hc
    rcases e' with q | q | q | q | q
    · rw [q]; exact ⟨_, hz, fun v q => nomatch q⟩
    · rw [q]; exact ⟨_, hTI, fun v q => nomatch q⟩
    · rw [q]; exact ⟨_, hTO, fun v q => nomatch q⟩
    · rw [q]; exact ⟨o1, e1, fun v q => by rw [d1] at q; cases q⟩
    · rw [q]; exact ⟨o2, e2, fun v q => by rw [d2] at q; cases q⟩
  keep := fun i h h' st k => by
    obtain ⟨hz, hTI, ⟨a1, a2, hTO⟩, ⟨o1, e1, r1⟩, h2, l1, l2⟩ := st
    exact ⟨k _ (by simp) _ hz, k _ (by simp) _ hTI, ⟨a1, a2, k _ (by simp) _ hTO⟩, ⟨o1, k _ (by simp) _ e1, r1⟩, h2.at fun o q => k _ (by simp) o q, l1, l2⟩
  item := by
    intro X hP hw hK hc i pins s σ H E I hf st hg
    subst hP hw hK
    obtain ⟨hz, hTI, ⟨a1, a2, hTO⟩, h1, h2, l1, l2⟩ := st
    obtain ⟨hqy, g1, g2⟩ := hg
    obtain ⟨its2, rv2, p2, _⟩ := I.tuple hqy
    have hl2 := rv2.length
    have S := zip_sep2 (N := N) (fp1 := []) (fp2 := [b]) (fun c hc => nomatch hc) (fun c hc => by rw [List.mem_singleton.mp hc]; exact bN)
    have d1 := Draws.text (prog := X.prog) (w := X.w) (A := X.A.in1) (I.ok.hd hc) N x t
    have d2 := Draws.tuple (prog := X.prog) (w := X.w) (A := X.A.in1) (I.ok.hd hc) (N + 1) b (Nat.ne_of_lt (Nat.lt_succ_of_lt bN)) its2.toArray
    refine wpAny_pyNext_zipD2_item S d1 d2 hz hTI hTO h1 ⟨h2, p2⟩ g1 (by rw [List.size_toArray]; omega) fun x1 x2 h' tk q1 q2 hz' hTO' s1 s2 hT hsz hk => ?_
    obtain ⟨c, u, hcx, rfl⟩ := q1
    have hzl : N + 4 < s.heap.objs.size := Heap.lt_size hz
    refine ⟨_, rfl, wpAny_letOwnedTupleGo_zip (s := { s with heap := h', toks := tk }) hz' fun h'' z'' sb => ?_⟩
    have sb : Heap.SameBut (N + 4) h' h'' := sb
    have hys : ys[i]? = some ys[i] := List.getElem?_eq_getElem g2
    obtain ⟨u2, hu2, ru2⟩ := rv2.get hys
    have e2 : u2 = x2 := Option.some.inj (hu2.symm.trans (by simpa using q2))
    subst e2
    have hT2 : h''.get? s.heap.objs.size = some { cls := .type "tuple", data := .seq #[.str ⟨#[c]⟩ u, u2] } := (sb.2 _ (Nat.ne_of_gt hzl)).trans hT
    have new : ObjOk X.prog X.w (upd H s.heap.objs.size (.tup [.str ⟨#[c]⟩, ys[i]])) h'' s.heap.objs.size (.tup [.str ⟨#[c]⟩, ys[i]]) :=
      ⟨by show 2 ≤ sizeLine; decide, [.str ⟨#[c]⟩ u, u2], .cons ⟨u, rfl⟩ (.cons ru2 .nil), ⟨_, hT2, rfl, _, rfl⟩⟩
    have I1 : Inv X pins σ (upd H s.heap.objs.size (.tup [.str ⟨#[c]⟩, ys[i]])) { s with heap := h'', toks := tk } :=
      I.turnedNew (t' := tk) (ch := [N + 4, N + 2, N + 3, N, N + 1]) (fun c o hb q => (sb.2 c (fun q' => hb (by simp [q']))).trans (hk c o (fun q' => hb (by simp [q'])) (fun q' => hb (by simp [q'])) (fun q' => hb (by simp [q'])) (fun q' => hb (by simp [q'])) q)) hf (Nat.le_refl _) new
    have ne : ∀ {a k : Nat}, a < k → N + a ≠ N + k := fun h => Nat.ne_of_lt (Nat.add_lt_add_left h _)
    have st' : h''.IsStrIter N (strIterType x) x t (i + 1) := let ⟨o, ho, r⟩ := s1; ⟨o, (sb.2 _ (ne (a := 0) (k := 4) (by decide))).trans ho, r⟩
    refine ⟨.ref s.heap.objs.size, _, I1, rfl, ⟨_, c, ys[i], rfl, I.hok.fresh (Nat.le_refl _), rfl, hcx, hys⟩, ⟨z'', ?_, ⟨.str ⟨#[c]⟩ u, u2, ?_⟩, st', ?_, g1, g2⟩, fun c' hcm => ?_⟩
    · exact (sb.2 _ S.TIz).trans (hk _ _ S.TIz S.TITO S.TIi1 S.TIi2 hTI)
    · exact (sb.2 _ S.TOz).trans hTO'
    · exact s2.1.at fun o q => (sb.2 _ (ne (a := 1) (k := 4) (by decide))).trans q
    · have hlt : c' < s.heap.objs.size := by
        have e' : c' = N + 4 ∨ c' = N + 2 ∨ c' = N + 3 ∨ c' = N ∨ c' = N + 1 := by simpa using hcm
        have b4 : ∀ k, k ≤ 4 → N + k < s.heap.objs.size := fun k hk' => Nat.lt_of_le_of_lt (Nat.add_le_add_left hk' _) hzl
        rcases e' with q | q | q | q | q
        · rw [q]; exact hzl
        · rw [q]; exact b4 2 (by decide)
        · rw [q]; exact b4 3 (by decide)
        · rw [q]; exact b4 0 (by decide)
        · rw [q]; exact b4 1 (by decide)
      rw [upd_ne (Nat.ne_of_lt hlt)]
      exact (hf c' hcm).1
  done := by
    intro X hP hw hK hc i pins s σ H E I hf st hg
    subst hP hw hK
    obtain ⟨hz, hTI, ⟨a1, a2, hTO⟩, h1, h2, l1, l2⟩ := st
    obtain ⟨hqy, hend⟩ := hg
    have hend : x.cps.size ≤ i ∨ ys.length ≤ i := hend
    obtain ⟨its2, rv2, p2, _⟩ := I.tuple hqy
    have hl2 := rv2.length
    have S := zip_sep2 (N := N) (fp1 := []) (fp2 := [b]) (fun c hc => nomatch hc) (fun c hc => by rw [List.mem_singleton.mp hc]; exact bN)
    have d1 := Draws.text (prog := X.prog) (w := X.w) (A := X.A.in1) (I.ok.hd hc) N x t
    have d2 := Draws.tuple (prog := X.prog) (w := X.w) (A := X.A.in1) (I.ok.hd hc) (N + 1) b (Nat.ne_of_lt (Nat.lt_succ_of_lt bN)) its2.toArray
    exact wpAny_pyNext_zipD2_end S d1 d2 hz hTI hTO h1 ⟨h2, p2⟩ l1 (by rw [List.size_toArray]; omega) (by rcases hend with q | q; exact .inl (Nat.le_antisymm l1 q); exact .inr (by have := List.size_toArray (as := its2); omega)) fun h' tk hk => ⟨rfl, I.turnedL (t' := tk) (ch := [N + 4, N + 2, N + 3, N, N + 1]) (fun c o hb q =>
      hk c o (fun q' => hb (by simp [q'])) (fun q' => hb (by simp [q'])) (fun q' => hb (by simp [q'])) (fun q' => hb (by simp [q'])) q) hf⟩
  self := fun A i s Q E st h => wpAny_pyIter_zip st.1 h
def iZipS (K : PySem.W.Frag) (ta : TA) : TI := fun σ H R => ta σ H fun vs H1 => ∃ x b ys, vs = [.str x, .ref b] ∧ SqT K H1 b ys ∧ R (ItzS K x b ys) H1
theorem pi_zipS {X : Cx} {e e2 : Expr} {ta : TA} {p pos tpos : Pos} {elts : List Expr} {kk : Nat} (hg : Gl X "zip") (hm : X.mg "zip" = none) (ha : PA X [e, e2] ta)
    (hs : starEach [e, e2] X.env = (false, eval e X.env) :: starEach [e2] X.env := by rfl) (hpl : (backTo pos (starEach [e2] X.env)).any (·.1) = false := by rfl) :
    PI X (.Tuple elts kk tpos) (.Call (.Name "zip" p) [e, e2] [] pos) (iZipS X.K ta) := by
  refine ⟨fun pins s σ H R I h => ?_⟩
  refine Call_ (ld_blt I hg hm PyProof.Rows.boot_zip (PyProof.Rows.callWith_type1 (thn (ha.run pos pins s σ H _ I h) fun us s1 ⟨vs, H1, I1, r1, q1⟩ => ?_) hs hpl))
  obtain ⟨x, b, ys, ex, hy, q⟩ := q1
  subst ex
  cases r1 with
  | cons r rr =>
    cases rr with
    | cons r' rr =>
      cases rr
      obtain ⟨t, rfl⟩ := r
      cases r'
      obtain ⟨its2, rv2, p2, _⟩ := I1.tuple hy
      obtain ⟨o2, g2, _⟩ := id p2
      refine zip_begins2 (begins_text x t) (begins_tuple b its2.toArray) trivial p2 fun h' hz hTI hTO h1 h2 hsz hk => wpAny_pyIter_zip hz ?_
      have I2 : Inv X pins σ H1 { s1 with heap := h' } := I1.kept (t' := s1.toks) hk
      refine ⟨s1.heap.objs.size + 4, _, _, _, H1, rfl, I2, turn_zipS (x := x) (t := t) (ys := ys) (Heap.lt_size g2), ⟨hz, hTI, ⟨_, _, hTO⟩, ⟨_, h1, rfl, rfl⟩, ⟨_, h2, rfl, rfl⟩, Nat.zero_le _, Nat.zero_le _⟩, fun c hcm => ?_, q⟩
      have e' : c = s1.heap.objs.size + 4 ∨ c = s1.heap.objs.size + 2 ∨ c = s1.heap.objs.size + 3 ∨ c = s1.heap.objs.size ∨ c = s1.heap.objs.size + 1 := by simpa using hcm
      have hle : s1.heap.objs.size ≤ c := by
        rcases e' with z | z | z | z | z
        · rw [z]; exact Nat.le_add_right _ _
        · rw [z]; exact Nat.le_add_right _ _
        · rw [z]; exact Nat.le_add_right _ _
        · rw [z]; exact Nat.le_refl _
        · rw [z]; exact Nat.le_add_right _ _
      exact I1.fpOk hle (I1.hok.fresh hle)
/-- a loop over zip of a text and a tuple of one length -/
theorem for_zipS {K : PySem.W.Frag} {x : Str} {b : Addr} {ys : List V} {g : TG} {tb : TS} {D : Ends} {σ : L2.St} {H : Hp} (hl : x.cps.size = ys.length) (Pv : Nat → L2.St → Hp → Prop) (h0 : Pv 0 σ H) (hq : ∀ i σ H, Pv i σ H → SqT K H b ys)
    (hs : ∀ (i c : Nat) (y : V) (T : Addr) (σ : L2.St) (H : Hp), x.cps[i]? = some c → ys[i]? = some y → Pv i σ H → H T = none → g (.ref T) σ (upd H T (.tup [.str ⟨#[c]⟩, y])) fun σ2 H2 => tb { D with nx := Pv (i + 1), ct := Pv (i + 1), bk := D.nx } σ2 H2) (hd : ∀ σ H, Pv ys.length σ H → D.nx σ H) :
    ∃ W : Nat → Nat → L2.St → Hp → Prop, (∃ m, W 0 m σ H) ∧ ∀ i m σ H, W i m σ H →
      ((ItzS K x b ys).stop i H ∧ D.nx σ H) ∨ ((ItzS K x b ys).go i H ∧ ∃ N : L2.St → Hp → Prop, (∀ σ' H', N σ' H' → ∃ m', m' < m ∧ W (i + 1) m' σ' H') ∧ ∀ v H', (ItzS K x b ys).yld i H v H' → g v σ H' fun σ2 H2 => tb { D with nx := N, ct := N, bk := D.nx } σ2 H2) := by
  refine ⟨fun i m σ H => m = ys.length - i ∧ i ≤ ys.length ∧ Pv i σ H, ⟨ys.length, rfl, Nat.zero_le _, h0⟩, ?_⟩
  rintro i m σ H ⟨rfl, hi, p⟩
  have q := hq i σ H p
  by_cases hlt : i < ys.length
  · refine .inr ⟨⟨q, by omega, hlt⟩, Pv (i + 1), fun σ' H' p' => ⟨ys.length - (i + 1), by omega, rfl, hlt, p'⟩, fun v H' y => ?_⟩
    obtain ⟨T, c, y', rfl, hT, rfl, f1, f2⟩ := y
    exact hs i c y' T σ H f1 f2 p hT
  · have e : i = ys.length := by omega
    subst e
    exact .inl ⟨⟨q, .inr (Nat.le_refl _)⟩, hd σ H p⟩
end My

set_option Elab.async false
set_option linter.all false
set_option maxRecDepth 100000
set_option maxHeartbeats 4000000
namespace My
open PySem PySem.W PySem.Spec PyProof.Rows L2
/-- a local name that holds one of several defs, called -/
def tCallA (i : Nat) (Ok : Addr → Sp → Prop) (t : TA) : TE := fun σ H Q => ∃ f sp, σ[i]? = some (some (.ref f)) ∧ Ok f sp ∧ t σ H fun vs H1 => sp vs H1 Q E0
theorem pe_cvA {X : Cx} {i k : Nat} {x : Str} {e : Expr} {es : List Expr} {t : TA} {p pos : Pos} {Ok : Addr → Sp → Prop} (c : ∀ f sp, Ok f sp → C8.CalAt X.prog X.w X.K X.mg X.base k f sp) (hr : Room k X.A) (hN : X.N[i]? = some x) (hv : Vis X.env.scope x) (ha : PA X (e :: es) t)
    (hd : (x == ("__debug__" : Str)) = false := by decide) (hcd : (x == ("__classdict__" : Str)) = false := by decide)
    (he : starEach (e :: es) X.env = (false, eval e X.env) :: starEach es X.env := by rfl) (hpl : (backTo pos (starEach es X.env)).any (·.1) = false := by rfl) :
    PE X (.Call (.Name x p) (e :: es) [] pos) (tCallA i Ok t) := by
  refine ⟨fun pins s σ H Q I h => ?_⟩
  obtain ⟨f, sp, hs, hok, ht⟩ := h
  obtain ⟨fd, ps, F, kp, b⟩ := (c f sp hok).ex
  refine wpAny_Call_Name_kw (thn ((pe_var (pos := p) hN hv hd hcd).run pins s σ H (fun v H1 => v = .ref f ∧ H1 = H) I ⟨.ref f, hs, rfl, rfl⟩) fun u s1 ⟨v, H1, I1, r1, q1⟩ => ?_)
  obtain ⟨rfl, rfl⟩ := q1
  cases r1
  refine PySem.W.callWith_K (h₀ := X.base) I.ok.mod.kin kp (thn (ha.run pos pins s1 σ _ _ I1 ht) fun us s2 ⟨vs, H2, I2, r, q⟩ => ⟨I2.kIn, ?_⟩) he hpl
  exact run_fn F hr b .nil pass0 I2 r (by rw [List.append_nil]; exact q)
/-- d.update(e) of two dicts of ours -/
def rUpdate : V → List V → Hp → VK → Prop := fun x vs H Q => ∃ d o kvs ws, x = .ref d ∧ vs = [.ref o] ∧ H d = some (.dK kvs) ∧ H o = some (.dK ws) ∧ d ≠ o ∧ kvs.length + ws.length ≤ sizeLine ∧ Q .non (upd H d (.dK (mergeK kvs ws)))
theorem mt_update {X : Cx} : MtM X "dict.update" rUpdate := by
  intro pins s σ H x vs v us Q I rx rv h
  obtain ⟨d, o, kvs, ws, rfl, rfl, hd, ho, hne, hz, q⟩ := h
  cases rx
  obtain ⟨u, rfl, ru⟩ := rv.one
  cases ru
  obtain ⟨z1, lo1, vs1, k1, hD⟩ := (show ObjOk X.prog X.w H s.heap d (.dK kvs) from I.hok d _ hd)
  obtain ⟨z2, lo2, vs2, k2, hO⟩ := (show ObjOk X.prog X.w H s.heap o (.dK ws) from I.hok o _ ho)
  have e1 := Paired.length k1
  have e2 := Paired.length k2
  refine call_meetsIn PySem.F.slot_dict_update hD.typeIs PySem.F.entry_dict_update (PySem.F.args_dict_update_2 _ _) (meets_dict_update (mixKind X.prog X.w) d o hne lo2)
    ⟨vs1, vs2, hD, hO, (by omega), fun h' hm _ hs => ?_⟩
  refine ⟨.non, upd H d (.dK (mergeK kvs ws)), I.write (t' := s.toks) (x := d) (e := d) (by rw [hd]; exact trivial) (.inl rfl) (fun b q hb z => (hs.2 b hb).trans z) ?_ ?_, rfl, q⟩
  · obtain ⟨o', ho', _⟩ := Heap.dictOf_iff.mp hm
    exact ⟨o', ho'⟩
  · refine ⟨?_, lo1, merged vs1 vs2, KV.merge k2 k1, hm⟩
    have e := Paired.length (KV.merge k2 k1)
    have e' := merged_length_le vs1 vs2
    omega
end My

set_option Elab.async false
set_option linter.all false
set_option maxRecDepth 100000
set_option maxHeartbeats 4000000
namespace My
open PySem L2
def top (i : Nat) : Stmt := PySem.Challenge.pw_rankloop_k63_deeds_and_words_counted.main.body.getD i (.Pass ⟨0, 0, 0, 0⟩)
/-! ### the pen: what a law draws from -/
abbrev kC : Key := Sum.inr "cells"
abbrev kA : Key := Sum.inr "at"
abbrev kL : Key := Sum.inr "left"
def pen (l : Addr) (n L : Int) : List (Key × V) := [(kC, .ref l), (kA, .int n), (kL, .int L)]
theorem sCA : ¬ Str.ofString "cells" = Str.ofString "at" := by decide +kernel
theorem sCL : ¬ Str.ofString "cells" = Str.ofString "left" := by decide +kernel
theorem sAL : ¬ Str.ofString "at" = Str.ofString "left" := by decide +kernel
theorem sLA : ¬ Str.ofString "left" = Str.ofString "at" := by decide +kernel
theorem nCA : ¬ kC = kA := fun h => absurd (Sum.inr.inj h) (by decide +kernel)
theorem nCL : ¬ kC = kL := fun h => absurd (Sum.inr.inj h) (by decide +kernel)
theorem nAL : ¬ kA = kL := fun h => absurd (Sum.inr.inj h) (by decide +kernel)
theorem pen_c (l : Addr) (n L : Int) : valV (pen l n L) kC = some (.ref l) := valV_pos rfl
theorem pen_a (l : Addr) (n L : Int) : valV (pen l n L) kA = some (.int n) := (valV_neg nCA).trans (valV_pos rfl)
theorem pen_l (l : Addr) (n L : Int) : valV (pen l n L) kL = some (.int L) := (valV_neg nCL).trans ((valV_neg nAL).trans (valV_pos rfl))
theorem pen_putA (l : Addr) (n L m : Int) : putK (pen l n L) kA (.int m) = pen l m L := by
  simp [putK, pen, sCA, sLA]
theorem pen_putL (l : Addr) (n L m : Int) : putK (pen l n L) kL (.int m) = pen l n m := by
  simp [putK, pen, sCL, sAL]
theorem pen_len (l : Addr) (n L : Int) : (pen l n L).length < sizeLine := by
  show 3 < sizeLine
  decide
theorem pen_new (l : Addr) (n L : Int) : mergeK [] (pen l n L) = pen l n L := by
  have h1 : putK [] kC (.ref l) = [(kC, V.ref l)] := rfl
  have h2 : putK [(kC, V.ref l)] kA (.int n) = [(kC, V.ref l), (kA, V.int n)] := by simp [putK, sCA]
  have h3 : putK [(kC, V.ref l), (kA, V.int n)] kL (.int L) = pen l n L := by simp [putK, pen, sCL, sAL]
  show putK (putK (putK [] kC (.ref l)) kA (.int n)) kL (.int L) = _
  rw [h1, h2, h3]
/-- a pen stands at d, its cells at l -/
structure Pen (H : Hp) (d l : Addr) (ms : List Int) (n L : Int) : Prop where
  dc : H d = some (.dK (pen l n L))
  ls : H l = some (.lst (ms.map V.int))
  n0 : 0 ≤ n
  l0 : 0 ≤ L
theorem Pen.ne {H : Hp} {d l : Addr} {ms : List Int} {n L : Int} (p : Pen H d l ms n L) : l ≠ d := ne_of p.ls p.dc (by intro z; cases z)
theorem Pen.gC {H : Hp} {d l : Addr} {ms : List Int} {n L : Int} (p : Pen H d l ms n L) : DGet H d (.str "cells") (some (.ref l)) := by
  have h := DGet.k (k := kC) p.dc
  rw [pen_c] at h
  exact h
theorem Pen.gA {H : Hp} {d l : Addr} {ms : List Int} {n L : Int} (p : Pen H d l ms n L) : DGet H d (.str "at") (some (.int n)) := by
  have h := DGet.k (k := kA) p.dc
  rw [pen_a] at h
  exact h
theorem Pen.gL {H : Hp} {d l : Addr} {ms : List Int} {n L : Int} (p : Pen H d l ms n L) : DGet H d (.str "left") (some (.int L)) := by
  have h := DGet.k (k := kL) p.dc
  rw [pen_l] at h
  exact h
theorem Pen.pA {H : Hp} {d l : Addr} {ms : List Int} {n L : Int} (p : Pen H d l ms n L) (y : Int) : DPut H d (.str "at") (.int y) (L2.upd H d (.dK (pen l y L))) := by
  have h := DPut.k (k := kA) (v := .int y) p.dc (pen_len l n L)
  rw [pen_putA] at h
  exact h
theorem Pen.pL {H : Hp} {d l : Addr} {ms : List Int} {n L : Int} (p : Pen H d l ms n L) (y : Int) : DPut H d (.str "left") (.int y) (L2.upd H d (.dK (pen l n y))) := by
  have h := DPut.k (k := kL) (v := .int y) p.dc (pen_len l n L)
  rw [pen_putL] at h
  exact h
def spPen (K : PySem.W.Frag) : Sp := fun vs H Q _ => ∃ (a : Addr) (ns : List Int), vs = [.ref a] ∧ SqL K H a (ns.map V.int) ∧
  ∀ (d l : Addr) (ms : List Int) (H' : Hp), H d = none → H l = none → Same H H' → Pen H' d l ms 0 0 → Q (.ref d) H'
def spDraw : Sp := fun vs H Q _ => ∃ (d l : Addr) (ms : List Int) (n L m : Int), vs = [.ref d, .int m] ∧ Pen H d l ms n L ∧ n < 2 ^ 40 ∧ 0 < m ∧ m < 1073741824 ∧
  ∀ (r n' L' : Int) (H' : Hp), 0 ≤ r → r < m → n ≤ n' → n' ≤ n + 1 → Pen H' d l ms n' L' → (∀ c o, H c = some o → c ≠ d → H' c = some o) → Q (.int r) H'
theorem Pen.upd' {H : Hp} {d l : Addr} {ms : List Int} {n L n' L' : Int} (p : Pen H d l ms n L) (h1 : 0 ≤ n') (h2 : 0 ≤ L') : Pen (L2.upd H d (.dK (pen l n' L'))) d l ms n' L' :=
  ⟨upd_same, by rw [upd_ne p.ne]; exact p.ls, h1, h2⟩
theorem cut_ints (ns : List Int) (lo hi : Option Int) : ∃ ms : List Int, cutV (ns.map V.int) lo hi = ms.map V.int := by
  unfold cutV
  refine ⟨(ns.drop (HT.sIx (ns.map V.int).length 0 lo)).take (HT.sIx (ns.map V.int).length (ns.map V.int).length hi - HT.sIx (ns.map V.int).length 0 lo), ?_⟩
  rw [List.map_take, List.map_drop]
section
variable {P : Program} {w : World} {K : PySem.W.Frag} {mg : Str → Option Value} {base : Heap}
abbrev sPen : Stmt := top 10
abbrev sDraw : Stmt := top 11
theorem scPen : FnScope ["_law_cells"] ["_law_cells"] (defScope sPen) := ⟨rfl, rfl, rfl, by decide +kernel, rfl, by decide +kernel, by decide +kernel⟩
theorem ok_pen {f : Addr} {fd : FuncData} (F : Fun K "_law_pen" "_law_pen" sPen f fd) (mList : mg "list" = none) : FnOk P w K mg base CX0 1 f fd ["_law_cells"] (spPen K) := by
  refine F.ok scPen (fun vs H Q E h => ?_) (fun cdv A outer s H vs Q E hr h => ?_)
  · obtain ⟨a, ns, rfl, _⟩ := h
    rfl
  · obtain ⟨a, ns, rfl, hS, k⟩ := h
    refine ⟨_, pss_one (ps_ret (pe_disp (pps_cons pe_str (pe_callTy call_list_of (by rfl) mList (by decide +kernel) (pa_cons (pe_slice sl_list (pv 0) po_none (po_some pe_int)) pa_nil))
      (pps_cons pe_str pe_int (pps_cons pe_str pe_int pps_nil))) (by rfl) (by rfl) (fun z => by cases z) (by decide))), ?_⟩
    intro d hd
    have s1 : Same H (upd H d (.dK [])) := fun b o e => by
      rw [upd_ne (ne_of_none e hd)]; exact e
    obtain ⟨ms, em⟩ := cut_ints ns none (some 63)
    refine ⟨_, rfl, 63, rfl, a, _, rfl, s1.seq hS, fun p hp => ⟨p, _, rfl, .inl (SqL.of upd_same), fun l hl => ?_⟩⟩
    have nlp : l ≠ p := fun z => by
      rw [z, upd_same] at hl
      cases hl
    have hl1 : upd H d (.dK []) l = none := by
      rw [upd_ne nlp] at hl; exact hl
    have nld : l ≠ d := fun z => by
      rw [z, upd_same] at hl1
      cases hl1
    have npd : p ≠ d := fun z => by
      rw [z, upd_same] at hp
      cases hp
    have hl0 : H l = none := by
      rw [upd_ne nld] at hl1; exact hl1
    have hp0 : H p = none := by
      rw [upd_ne npd] at hp; exact hp
    refine ⟨by rw [upd_ne (Ne.symm nld), upd_ne (Ne.symm npd), upd_same], pen l 0 0, rfl, by show 3 ≤ 15; decide, ?_⟩
    rw [pen_new]
    refine k d l ms _ hd hl0 (fun b o e => ?_) ⟨upd_same, ?_, Int.le_refl _, Int.le_refl _⟩
    · rw [upd_ne (ne_of_none e hd), upd_ne (ne_of_none e hl0), upd_ne (ne_of_none e hp0), upd_ne (ne_of_none e hd)]
      exact e
    · rw [upd_ne nld, upd_same]
      exact congrArg (fun z => some (HO.lst z)) em
theorem scDraw : FnScope ["_law_held", "_law_many", "_law_found", "_law_at", "_law_cell", "_law_number"] ["_law_held", "_law_many"] (defScope sDraw) := ⟨rfl, rfl, rfl, by decide +kernel, rfl, by decide +kernel, by decide +kernel⟩
theorem eq_nil (ms : List Int) : (!PyData.eqv (.list (ms.map PyData.int)) (.list [])) = !ms.isEmpty := by
  cases ms <;> simp [PyData.eqv, PyData.eqvAll]
theorem dp_ints {H : Hp} : ∀ ms : List Int, DpAll K H (ms.map V.int) (ms.map PyData.int)
  | [] => .nil
  | i :: r => .cons (.int i) (dp_ints r)
theorem shaped_ints (ms : List Int) : SeqAt.shaped (.list (ms.map PyData.int)) = true := by
  have h1 : ∀ ms : List Int, PyData.canLayAll0 (ms.map PyData.int) = true := by
    intro ms
    induction ms with
    | nil => rfl
    | cons a r ih => simp [PyData.canLayAll0, PyData.canLay0, ih]
  have h2 : ∀ ms : List Int, PyData.depthAll (ms.map PyData.int) ≤ 1 := by
    intro ms
    induction ms with
    | nil => simp [PyData.depthAll]
    | cons a r ih => simp [PyData.depthAll, PyData.depth]; omega
  unfold SeqAt.shaped
  have h3 := h2 ms
  simp [PyData.canLay0, PyData.depth, h1]
  omega
theorem ok_draw {f : Addr} {fd : FuncData} (F : Fun K "_law_draw" "_law_draw" sDraw f fd) (mLen : mg "len" = none) : FnOk P w K mg base CX0 1 f fd ["_law_held", "_law_many"] spDraw := by
  refine F.ok scDraw (fun vs H Q E h => ?_) (fun cdv A outer s H vs Q E hr h => ?_)
  · obtain ⟨d, l, ms, n, L, m, rfl, _⟩ := h
    rfl
  · obtain ⟨d, l, ms, n, L, m, rfl, p, hn, hm0, hm1, k⟩ := h
    have hu := hu_of hr
    have nd := scDraw.nd
    refine ⟨_, pss_cons (ps_if (pt_cmpR op_gt (pe_dget hu (pv 0) pe_str (fun _ _ => rfl)) pe_int (nomark _))
        (pss_cons (ps_set (i := 2) nd rfl (Or.inl rfl) (pe_op op_mod (pe_dget hu (pv 0) pe_str (fun _ _ => rfl)) (pv 1)))
        (pss_cons (ps_dput hu (pv 0) pe_str (pe_op op_fdiv (pe_dget hu (pv 0) pe_str (fun _ _ => rfl)) (pv 1)) rfl)
        (pss_one (ps_ret (pv 2))))) pss_nil)
      (pss_cons (ps_set (i := 3) nd rfl (Or.inl rfl) (pe_dget hu (pv 0) pe_str (fun _ _ => rfl)))
      (pss_cons (ps_dput hu (pv 0) pe_str (pe_op op_add (pv 3) pe_int) rfl)
      (pss_cons (ps_set (i := 4) nd rfl (Or.inl rfl) pe_int)
      (pss_cons (ps_if (pt_cmpR (op_neD hr.units) (pe_dget hu (pv 0) pe_str (fun _ _ => rfl)) (pe_lst pa_nil) (nomark _))
        (pss_one (ps_set (i := 4) nd rfl (Or.inl rfl) (pe_ix ix_list (pe_dget hu (pv 0) pe_str (fun _ _ => rfl)) (pe_op op_mod (pv 3) (pe_callB call_len_seq (by rfl) mLen PySem.boot_len (pa_cons (pe_dget hu (pv 0) pe_str (fun _ _ => rfl)) pa_nil))) (fun _ _ => rfl)))) pss_nil)
      (pss_cons (ps_if (PW.pt (pw_and (pt_cmpR op_lt (pv 3) (pe_callB call_len_seq (by rfl) mLen PySem.boot_len (pa_cons (pe_dget hu (pv 0) pe_str (fun _ _ => rfl)) pa_nil)) (nomark _))
          (pw_and1 (pt_cmpR op_ge (pv 4) (pe_op op_pow pe_int pe_int) (nomark _)))))
        (pss_cons (ps_dput hu (pv 0) pe_str (pe_op op_fdiv (pe_op op_sub (pv 4) (pe_op op_pow pe_int pe_int)) (pv 1)) rfl)
        (pss_one (ps_ret (pe_op op_mod (pe_op op_sub (pv 4) (pe_op op_pow pe_int pe_int)) (pv 1))))) pss_nil)
      (pss_cons (ps_set (i := 5) nd rfl (Or.inl rfl) (pe_op op_mod (pe_op op_add (pe_op op_add (pe_op op_add (pe_op op_mul (pe_op op_mod (pv 4) pe_int) pe_int) (pe_op op_mul (pe_op op_mul pe_int (pv 3)) (pv 3))) (pe_op op_mul pe_int (pv 3))) pe_int) pe_int))
      (pss_cons (ps_set (i := 5) nd rfl (Or.inl rfl) (pe_op op_mod (pe_op op_add (pe_op op_add (pe_op op_mul (pv 5) (pv 5)) (pe_op op_mul pe_int (pv 5))) pe_int) pe_int))
      (pss_one (ps_ret (pe_op op_mod (pe_op op_fdiv (pv 5) pe_int) (pv 1))))))))))), ?_⟩
    refine ⟨_, rfl, d, _, rfl, p.gL, _, _, rfl, rfl, _, rfl, ite2 (fun c => ?_) (fun c => ?_)⟩
    · refine ⟨_, rfl, d, _, rfl, p.gL, _, rfl, _, _, rfl, rfl, hm0, ?_⟩
      refine ⟨_, rfl, d, _, rfl, p.gL, _, rfl, _, _, rfl, rfl, ⟨hm0, hm1⟩, _, rfl, d, _, rfl, p.pL _, ?_⟩
      refine ⟨_, rfl, ?_⟩
      exact k _ n _ _ (Int.emod_nonneg _ (by omega)) (Int.emod_lt_of_pos _ hm0) (Int.le_refl _) (by omega) (p.upd' p.n0 (Int.ediv_nonneg p.l0 (by omega))) fun c o e nc => by
        rw [upd_ne nc]; exact e
    · refine ⟨_, rfl, d, _, rfl, p.gA, ?_⟩
      refine ⟨_, rfl, _, _, rfl, rfl, _, rfl, d, _, rfl, p.pA _, ?_⟩
      have p1 : Pen (upd H d (.dK (pen l (n + 1) L))) d l ms (n + 1) L := p.upd' (by have := p.n0; omega) p.l0
      have pw : ((10 : Int).natAbs < 2 ^ 64) := by decide
      refine ⟨_, rfl, d, _, rfl, p1.gC, Nat.zero_le _, fun q hq => ?_⟩
      have p2 : Pen (upd (upd H d (.dK (pen l (n + 1) L))) q (.lst [])) d l ms (n + 1) L :=
        ⟨by rw [upd_ne (ne_of_none p1.dc hq)]; exact p1.dc, by rw [upd_ne (ne_of_none p1.ls hq)]; exact p1.ls, p1.n0, p1.l0⟩
      have keep : ∀ c o, H c = some o → c ≠ d → (upd (upd H d (.dK (pen l (n + 1) L))) q (.lst [])) c = some o := fun c o e nc => by
        have e1 : (upd H d (.dK (pen l (n + 1) L))) c = some o := by rw [upd_ne nc]; exact e
        rw [upd_ne (ne_of_none e1 hq)]
        exact e1
      refine ⟨.list (ms.map PyData.int), .list [], .lst (SqL.of p2.ls) (dp_ints ms), .lst (SqL.of upd_same) .nil, shaped_ints ms, by decide, _, rfl, ite2 (fun c1 => ?_) (fun c1 => ?_)⟩
      · rw [eq_nil] at c1
        have hne : ms ≠ [] := fun z => by
          rw [z] at c1; cases c1
        have hlen : 0 < ms.length := List.length_pos_iff.mpr hne
        have hlen' : (0 : Int) < ((ms.map V.int).length : Int) := by rw [List.length_map]; omega
        have hlt : (n % ((ms.map V.int).length : Int)).toNat < ms.length := by
          have h1 := Int.emod_nonneg n (b := ((ms.map V.int).length : Int)) (by omega)
          have h2 := Int.emod_lt_of_pos n hlen'
          rw [List.length_map] at h1 h2 ⊢
          omega
        have hat : atI (ms.map V.int) (n % ((ms.map V.int).length : Int)) = some (V.int (ms[(n % ((ms.map V.int).length : Int)).toNat]'hlt)) := by
          have h1 := Int.emod_nonneg n (b := ((ms.map V.int).length : Int)) (by omega)
          have h2 : (ms.map V.int)[(n % ((ms.map V.int).length : Int)).toNat]? = some (V.int (ms[(n % ((ms.map V.int).length : Int)).toNat]'hlt)) := by
            rw [List.getElem?_map, List.getElem?_eq_getElem hlt]; rfl
          have h3 := atI_nat h2
          rw [Int.toNat_of_nonneg h1] at h3
          exact h3
        refine ⟨_, rfl, d, _, rfl, p2.gC, _, rfl, _, rfl, d, _, rfl, p2.gC, l, _, rfl, .inl (SqL.of p2.ls), _, _, rfl, rfl, hlen', l, _, _, _, rfl, rfl, SqL.of p2.ls, hat, ?_⟩
        refine ⟨_, rfl, _, rfl, d, _, rfl, p2.gC, l, _, rfl, .inl (SqL.of p2.ls), _, _, rfl, rfl, _, rfl, ite2 (fun c2 => ?_) (fun c2 => ?_)⟩
        · refine ⟨_, rfl, _, _, rfl, rfl, ⟨by decide, by decide, pw⟩, _, _, rfl, rfl, _, rfl, ite2 (fun c3 => ?_) (fun c3 => ?_)⟩
          · have hz := of_decide_eq_true c3
            refine ⟨_, rfl, _, _, rfl, rfl, ⟨by decide, by decide, pw⟩, _, _, rfl, rfl, _, rfl, _, _, rfl, rfl, ⟨hm0, hm1⟩, _, rfl, d, _, rfl, p2.pL _, ?_⟩
            refine ⟨_, rfl, _, _, rfl, rfl, ⟨by decide, by decide, pw⟩, _, _, rfl, rfl, _, rfl, _, _, rfl, rfl, hm0, ?_⟩
            exact k _ (n + 1) _ _ (Int.emod_nonneg _ (by omega)) (Int.emod_lt_of_pos _ hm0) (by omega) (Int.le_refl _) (p2.upd' p2.n0 (Int.ediv_nonneg (by omega) (by omega))) fun c o e nc => by
              rw [upd_ne nc]; exact keep c o e nc
          · skip
            refine ⟨_, rfl, _, _, rfl, rfl, (by show (0 : Int) < 2147483549; decide), _, _, rfl, rfl, .inr ⟨by decide, by decide⟩, _, rfl, _, _, rfl, rfl, .inl ⟨by decide, by decide⟩, _, rfl, _, _, rfl, rfl, .inr ⟨by have := p.n0; omega, by omega⟩, _, _, rfl, rfl, _, rfl, _, _, rfl, rfl, .inl ⟨by decide, by decide⟩, _, _, rfl, rfl, _, _, rfl, rfl, _, _, rfl, rfl, (by show (0 : Int) < 2147483647; decide), ?_⟩
            refine ⟨_, rfl, _, rfl, _, _, rfl, rfl, .inl ⟨Int.lt_of_lt_of_le (by decide) (Int.emod_nonneg _ (by decide)), Int.lt_trans (Int.emod_lt_of_pos _ (by decide)) (by decide)⟩, _, rfl, _, _, rfl, rfl, .inl ⟨by decide, by decide⟩, _, _, rfl, rfl, _, _, rfl, rfl, _, _, rfl, rfl, (by show (0 : Int) < 2147483629; decide), ?_⟩
            refine ⟨_, rfl, _, _, rfl, rfl, ⟨by decide, by decide⟩, _, rfl, _, _, rfl, rfl, hm0, ?_⟩
            exact k _ (n + 1) L _ (Int.emod_nonneg _ (by omega)) (Int.emod_lt_of_pos _ hm0) (by omega) (Int.le_refl _) p2 keep
        · skip
          refine ⟨_, rfl, _, _, rfl, rfl, (by show (0 : Int) < 2147483549; decide), _, _, rfl, rfl, .inr ⟨by decide, by decide⟩, _, rfl, _, _, rfl, rfl, .inl ⟨by decide, by decide⟩, _, rfl, _, _, rfl, rfl, .inr ⟨by have := p.n0; omega, by omega⟩, _, _, rfl, rfl, _, rfl, _, _, rfl, rfl, .inl ⟨by decide, by decide⟩, _, _, rfl, rfl, _, _, rfl, rfl, _, _, rfl, rfl, (by show (0 : Int) < 2147483647; decide), ?_⟩
          refine ⟨_, rfl, _, rfl, _, _, rfl, rfl, .inl ⟨Int.lt_of_lt_of_le (by decide) (Int.emod_nonneg _ (by decide)), Int.lt_trans (Int.emod_lt_of_pos _ (by decide)) (by decide)⟩, _, rfl, _, _, rfl, rfl, .inl ⟨by decide, by decide⟩, _, _, rfl, rfl, _, _, rfl, rfl, _, _, rfl, rfl, (by show (0 : Int) < 2147483629; decide), ?_⟩
          refine ⟨_, rfl, _, _, rfl, rfl, ⟨by decide, by decide⟩, _, rfl, _, _, rfl, rfl, hm0, ?_⟩
          exact k _ (n + 1) L _ (Int.emod_nonneg _ (by omega)) (Int.emod_lt_of_pos _ hm0) (by omega) (Int.le_refl _) p2 keep
      · skip
        refine ⟨_, rfl, _, rfl, d, _, rfl, p2.gC, l, _, rfl, .inl (SqL.of p2.ls), _, _, rfl, rfl, _, rfl, ite2 (fun c2 => ?_) (fun c2 => ?_)⟩
        · refine ⟨_, rfl, _, _, rfl, rfl, ⟨by decide, by decide, pw⟩, _, _, rfl, rfl, _, rfl, ite2 (fun c3 => ?_) (fun c3 => ?_)⟩
          · have hz := of_decide_eq_true c3
            refine ⟨_, rfl, _, _, rfl, rfl, ⟨by decide, by decide, pw⟩, _, _, rfl, rfl, _, rfl, _, _, rfl, rfl, ⟨hm0, hm1⟩, _, rfl, d, _, rfl, p2.pL _, ?_⟩
            refine ⟨_, rfl, _, _, rfl, rfl, ⟨by decide, by decide, pw⟩, _, _, rfl, rfl, _, rfl, _, _, rfl, rfl, hm0, ?_⟩
            exact k _ (n + 1) _ _ (Int.emod_nonneg _ (by omega)) (Int.emod_lt_of_pos _ hm0) (by omega) (Int.le_refl _) (p2.upd' p2.n0 (Int.ediv_nonneg (by omega) (by omega))) fun c o e nc => by
              rw [upd_ne nc]; exact keep c o e nc
          · skip
            refine ⟨_, rfl, _, _, rfl, rfl, (by show (0 : Int) < 2147483549; decide), _, _, rfl, rfl, .inr ⟨by decide, by decide⟩, _, rfl, _, _, rfl, rfl, .inl ⟨by decide, by decide⟩, _, rfl, _, _, rfl, rfl, .inr ⟨by have := p.n0; omega, by omega⟩, _, _, rfl, rfl, _, rfl, _, _, rfl, rfl, .inl ⟨by decide, by decide⟩, _, _, rfl, rfl, _, _, rfl, rfl, _, _, rfl, rfl, (by show (0 : Int) < 2147483647; decide), ?_⟩
            refine ⟨_, rfl, _, rfl, _, _, rfl, rfl, .inl ⟨Int.lt_of_lt_of_le (by decide) (Int.emod_nonneg _ (by decide)), Int.lt_trans (Int.emod_lt_of_pos _ (by decide)) (by decide)⟩, _, rfl, _, _, rfl, rfl, .inl ⟨by decide, by decide⟩, _, _, rfl, rfl, _, _, rfl, rfl, _, _, rfl, rfl, (by show (0 : Int) < 2147483629; decide), ?_⟩
            refine ⟨_, rfl, _, _, rfl, rfl, ⟨by decide, by decide⟩, _, rfl, _, _, rfl, rfl, hm0, ?_⟩
            exact k _ (n + 1) L _ (Int.emod_nonneg _ (by omega)) (Int.emod_lt_of_pos _ hm0) (by omega) (Int.le_refl _) p2 keep
        · skip
          refine ⟨_, rfl, _, _, rfl, rfl, (by show (0 : Int) < 2147483549; decide), _, _, rfl, rfl, .inr ⟨by decide, by decide⟩, _, rfl, _, _, rfl, rfl, .inl ⟨by decide, by decide⟩, _, rfl, _, _, rfl, rfl, .inr ⟨by have := p.n0; omega, by omega⟩, _, _, rfl, rfl, _, rfl, _, _, rfl, rfl, .inl ⟨by decide, by decide⟩, _, _, rfl, rfl, _, _, rfl, rfl, _, _, rfl, rfl, (by show (0 : Int) < 2147483647; decide), ?_⟩
          refine ⟨_, rfl, _, rfl, _, _, rfl, rfl, .inl ⟨Int.lt_of_lt_of_le (by decide) (Int.emod_nonneg _ (by decide)), Int.lt_trans (Int.emod_lt_of_pos _ (by decide)) (by decide)⟩, _, rfl, _, _, rfl, rfl, .inl ⟨by decide, by decide⟩, _, _, rfl, rfl, _, _, rfl, rfl, _, _, rfl, rfl, (by show (0 : Int) < 2147483629; decide), ?_⟩
          refine ⟨_, rfl, _, _, rfl, rfl, ⟨by decide, by decide⟩, _, rfl, _, _, rfl, rfl, hm0, ?_⟩
          exact k _ (n + 1) L _ (Int.emod_nonneg _ (by omega)) (Int.emod_lt_of_pos _ hm0) (by omega) (Int.le_refl _) p2 keep
end
end My

set_option Elab.async false
set_option linter.all false
set_option maxRecDepth 100000
set_option maxHeartbeats 4000000
namespace My
open PySem L2
/-! ### isinstance of a tree -/
def tyN : PyData → String
  | .none => "NoneType" | .bool _ => "bool" | .int _ => "int" | .str _ => "str" | .list _ => "list" | .tuple _ => "tuple" | .dict _ => "dict"
def isStr : PyData → Bool
  | .str _ => true | _ => false
def isInt : PyData → Bool
  | .int _ => true | .bool _ => true | _ => false
def isBool : PyData → Bool
  | .bool _ => true | _ => false
def isTup : PyData → Bool
  | .tuple _ => true | _ => false
def isNon : PyData → Bool
  | .none => true | _ => false
def isTy (T : String) (d : PyData) : Bool := if T = "str" then isStr d else if T = "int" then isInt d else if T = "bool" then isBool d else isTup d
section
variable {P : Program} {w : World} {K : PySem.W.Frag} {mg : Str → Option Value} {pB : Heap}
theorem base_ty {H : Hp} {T : V → List PyData → Prop} {v : V} {d : PyData} (ht : ∀ ds, T v ds → ∃ a xs, v = .ref a ∧ H a = some (.tup xs)) (h : base H T v d) : TyX K H v (.type (tyN d)) := by
  cases d with
  | none => rw [show v = .non from h]; exact .base .non
  | bool b => rw [show v = .bl b from h]; exact .base (.bl b)
  | int i => rw [show v = .int i from h]; exact .base (.int i)
  | str x => rw [show v = .str x from h]; exact .base (.str x)
  | list l =>
    obtain ⟨a, xs, rfl, e⟩ := h
    exact .base (.lst e)
  | dict l =>
    obtain ⟨a, rfl, e⟩ := h
    exact .base (.dK e)
  | tuple ds =>
    obtain ⟨a, xs, rfl, e⟩ := ht ds h
    exact .base (.tup e)
theorem Rep.ty {H : Hp} {m : Nat} {v : V} {d : PyData} (h : Rep H m v d) : TyX K H v (.type (tyN d)) := by
  cases m with
  | zero => exact base_ty (fun _ z => z.elim) h
  | succ m => exact base_ty (fun ds ⟨a, xs, e, q, _⟩ => ⟨a, xs, e, q⟩) h
theorem kit_T {T : String} (hT : T = "str" ∨ T = "int" ∨ T = "bool" ∨ T = "tuple") (d : PyData) : kitB (tyN d) T = some (isTy T d) := by
  rcases hT with rfl | rfl | rfl | rfl <;> cases d <;> kernel_rfl
theorem rd_isi {σ : L2.St} {H : Hp} {Q : VK} {i m : Nat} {T : String} {v : V} {d : PyData} (hT : T = "str" ∨ T = "int" ∨ T = "bool" ∨ T = "tuple") (hσ : σ[i]? = some (some v)) (r : Rep H m v d) (h : Q (.bl (isTy T d)) H) :
    tCB (rIsi K) (tCons (tVar i) (tCons (tC (.ty T)) tNil)) σ H Q :=
  ⟨_, hσ, v, .ty T, .type (tyN d), .type T, _, rfl, .ty T, r.ty, kit_ty (kit_T hT d), h⟩
theorem rep_str {H : Hp} {m : Nat} {v : V} {x : Str} (h : Rep H m v (.str x)) : v = .str x := by
  cases m <;> exact h
theorem rep_int {H : Hp} {m : Nat} {v : V} {i : Int} (h : Rep H m v (.int i)) : v = .int i := by
  cases m <;> exact h
theorem rep_none {H : Hp} {m : Nat} {v : V} (h : Rep H m v .none) : v = .non := by
  cases m <;> exact h
theorem rep_tup {H : Hp} {m : Nat} {v : V} {ds : List PyData} (h : Rep H m v (.tuple ds)) : ∃ k a xs, m = k + 1 ∧ v = .ref a ∧ H a = some (.tup xs) ∧ Paired (Rep H k) xs ds := by
  cases m with
  | zero => exact (show False from h).elim
  | succ k =>
    obtain ⟨a, xs, e, q, p⟩ := (show ∃ a xs, v = .ref a ∧ H a = some (.tup xs) ∧ Paired (Rep H k) xs ds from h)
    exact ⟨k, a, xs, rfl, e, q, p⟩
theorem rep_nonn {H : Hp} {m : Nat} {v : V} {d : PyData} (h : Rep H m v d) : decide (v = .non) = isNon d := by
  have key : ∀ T : V → List PyData → Prop, (∀ ds, T v ds → v ≠ .non) → base H T v d → decide (v = .non) = isNon d := by
    intro T ht hb
    cases d with
    | none => rw [show v = .non from hb]; rfl
    | bool b => rw [show v = .bl b from hb]; rfl
    | int i => rw [show v = .int i from hb]; rfl
    | str x => rw [show v = .str x from hb]; rfl
    | list l =>
      obtain ⟨a, xs, rfl, e⟩ := hb
      rfl
    | dict l =>
      obtain ⟨a, rfl, e⟩ := hb
      rfl
    | tuple ds =>
      have := ht ds hb
      rw [decide_eq_false this]; rfl
  cases m with
  | zero => exact key _ (fun _ z => z.elim) h
  | succ m => exact key _ (fun ds ⟨a, xs, e, _⟩ => by rw [e]; intro z; cases z) h
theorem yes_of {σ : L2.St} {H : Hp} {Q : Bool → Hp → Prop} (h : Q true H) : tYes σ H Q := h
/-! ### is_word -/
def wdD : PyData → Bool
  | .str x => isWd x
  | _ => false
def spIsWord : Sp := fun vs H Q _ => ∃ (m : Nat) (v : V) (d : PyData), vs = [v] ∧ Rep H m v d ∧ szD d ≤ 1000000 ∧ ∀ H', Same H H' → Q (.bl (wdD d)) H'
theorem bools_all (l : List Nat) : ((l.map fun c => decide (c ∈ letters)).all id) = l.all fun c => decide (c ∈ letters) := by
  rw [List.all_map]; rfl
theorem take_snoc {α : Type} {l : List α} {i : Nat} {a : α} (h : l[i]? = some a) : l.take (i + 1) = l.take i ++ [a] := by
  rw [List.take_succ, h]; rfl
end
end My

set_option Elab.async false
set_option linter.all false
set_option maxRecDepth 100000
set_option maxHeartbeats 4000000
namespace My
open PySem L2
section
variable {P : Program} {w : World} {K : PySem.W.Frag} {mg : Str → Option Value} {pB : Heap}
/-! ### the law's own is_word -/
theorem none_out (l : List Nat) : ((l.filter fun c => !decide (c ∈ letters)).map fun c => V.str ⟨#[c]⟩).isEmpty = l.all fun c => decide (c ∈ letters) := by
  induction l with
  | nil => rfl
  | cons c l ih =>
    by_cases h : c ∈ letters
    · rw [List.filter_cons_of_neg (by simp [h]), List.all_cons, ih]; simp [h]
    · rw [List.filter_cons_of_pos (by simp [h])]; simp [h]
/-! ### numbers between two ends -/
def btw (lo hi : Int) : PyData → Bool
  | .int i => decide (lo ≤ i) && decide (i ≤ hi)
  | _ => false
def spBtw : Sp := fun vs H Q _ => ∃ (m : Nat) (v : V) (d : PyData) (lo hi : Int), vs = [v, .int lo, .int hi] ∧ Rep H m v d ∧ Q (.bl (btw lo hi d)) H

end
end My

set_option Elab.async false
set_option linter.all false
set_option maxRecDepth 100000
set_option maxHeartbeats 4000000
namespace My
open PySem L2
section
variable {P : Program} {w : World} {K : PySem.W.Frag} {mg : Str → Option Value} {pB : Heap}
theorem Paired.at {α β : Type} {F : α → β → Prop} : ∀ {xs : List α} {ys : List β} {i : Nat} {x : α}, Paired F xs ys → xs[i]? = some x → ∃ y, ys[i]? = some y ∧ F x y
  | _, _, _, _, .nil, e => by simp at e
  | _, _, 0, _, .cons r _, e => by
    simp at e
    subst e
    exact ⟨_, rfl, r⟩
  | _, _, i + 1, x, .cons _ t, e => by
    obtain ⟨y, h1, h2⟩ := Paired.at (i := i) (x := x) t (by simpa using e)
    exact ⟨y, by simpa using h1, h2⟩
/-- the promise of no call at all -/
def spBot : Sp := fun _ _ _ _ => False
theorem ok_bot {k : Nat} {f : Addr} {fd : FuncData} {ps : List Str} : FnOk P w K mg pB CX0 k f fd ps spBot := ⟨fun _ _ _ _ h => h.elim, fun _ _ _ _ _ _ _ _ _ _ _ _ _ h => h.elim⟩
def spWth (n : Nat) : Sp := fun vs H Q _ => ∃ (m : Nat) (v : V) (d : PyData), vs = [v, .int (n : Int)] ∧ Rep H m v d ∧ szD d ≤ 1000000 ∧ ∀ H', Same H H' → Q (.bl (isW n d)) H'
def spPrev : Nat → Sp
  | 0 => spBot
  | n + 1 => spWth n
theorem leaf_or {d : PyData} (h : ∀ ds, d ≠ .tuple ds) (n : Nat) : isW n d = (isNon d || (wdD d || btw (-1000000000) 1000000000 d)) := by
  rw [isW_leaf h]
  cases d with
  | tuple ds => exact absurd rfl (h ds)
  | int i =>
    show decide _ = (false || (false || (decide _ && decide _)))
    rw [Bool.false_or, Bool.false_or, Bool.decide_and]
  | str x =>
    show isWd x = (false || (isWd x || false))
    rw [Bool.false_or, Bool.or_false]
  | none => rfl
  | bool b => rfl
  | list l => rfl
  | dict l => rfl
end
end My

set_option Elab.async false
set_option linter.all false
set_option maxRecDepth 100000
set_option maxHeartbeats 4000000
namespace My
open PySem L2
section
variable {P : Program} {w : World} {K : PySem.W.Frag} {mg : Str → Option Value} {pB : Heap}
def spIsWorth : Sp := fun vs H Q _ => ∃ (m : Nat) (v : V) (d : PyData), vs = [v] ∧ Rep H m v d ∧ szD d ≤ 1000000 ∧ ∀ H', Same H H' → Q (.bl (isW 4 d)) H'
end
end My

set_option Elab.async false
set_option linter.all false
set_option maxRecDepth 100000
set_option maxHeartbeats 4000000
namespace My
open PySem L2
section
variable {P : Program} {w : World} {K : PySem.W.Frag} {mg : Str → Option Value} {pB : Heap}
/-! ### what is drawn -/
/-- behind some drawing: the pen goes on, all else stands -/
structure Dr (H H' : Hp) (d l : Addr) (ms : List Int) (n n' L' b : Int) : Prop where
  kp : Kp d H H'
  pn : Pen H' d l ms n' L'
  lo : n ≤ n'
  hi : n' ≤ n + b
theorem Dr.trans {H H1 H2 : Hp} {d l : Addr} {ms : List Int} {n n1 n2 L1 L2 b c : Int} (x : Dr H H1 d l ms n n1 L1 b) (y : Dr H1 H2 d l ms n1 n2 L2 c) : Dr H H2 d l ms n n2 L2 (b + c) :=
  ⟨x.kp.trans y.kp, y.pn, Int.le_trans x.lo y.lo, by have := x.hi; have := y.hi; omega⟩
theorem Dr.same {H H1 H2 : Hp} {d l : Addr} {ms : List Int} {n n1 L1 b : Int} (x : Dr H H1 d l ms n n1 L1 b) (s : Same H1 H2) : Dr H H2 d l ms n n1 L1 b :=
  ⟨x.kp.trans (Kp.of s), ⟨s _ _ x.pn.dc, s _ _ x.pn.ls, x.pn.n0, x.pn.l0⟩, x.lo, x.hi⟩
theorem Dr.wk {H H1 : Hp} {d l : Addr} {ms : List Int} {n n1 L1 b c : Int} (x : Dr H H1 d l ms n n1 L1 b) (h : b ≤ c) : Dr H H1 d l ms n n1 L1 c := ⟨x.kp, x.pn, x.lo, by have := x.hi; omega⟩
theorem Dr.refl {H : Hp} {d l : Addr} {ms : List Int} {n L : Int} (p : Pen H d l ms n L) : Dr H H d l ms n n L 0 := ⟨Kp.refl _ _, p, Int.le_refl _, by omega⟩
theorem pen_ne (l : Addr) (n L : Int) : pen l n L ≠ [] := by intro z; cases z
theorem Dr.rep {H H1 : Hp} {d l : Addr} {ms : List Int} {n n1 L L1 b : Int} (x : Dr H H1 d l ms n n1 L1 b) (p : Pen H d l ms n L) {k : Nat} {v : V} {t : PyData} (r : Rep H k v t) : Rep H1 k v t := r.keep p.dc (pen_ne _ _ _) x.kp
/-- one draw, read -/
theorem rd_dr {σ : L2.St} {H : Hp} {Q : VK} {i : Nat} {te : TE} {d l : Addr} {ms : List Int} {n L m : Int} (hσ : σ[i]? = some (some (.ref d))) (ht : ∀ Q' : VK, Q' (.int m) H → te σ H Q') (p : Pen H d l ms n L) (hn : n < 2 ^ 40) (h0 : 0 < m) (h1 : m < 1073741824)
    (h : ∀ (r n' L' : Int) (H' : Hp), 0 ≤ r → r < m → Dr H H' d l ms n n' L' 1 → Q (.int r) H') : tCall spDraw [] E0 (tCons (tVar i) (tCons te tNil)) σ H Q :=
  ⟨_, hσ, ht _ ⟨d, l, ms, n, L, m, rfl, p, hn, h0, h1, fun r n' L' H' r0 r1 a b q k => h r n' L' H' r0 r1 ⟨k, q, a, b⟩⟩⟩
def spPick : Sp := fun vs H Q _ => ∃ (d l : Addr) (ms : List Int) (n L : Int) (y : V), vs = [.ref d, y] ∧ Pen H d l ms n L ∧ n < 2 ^ 39 ∧
  ((∃ z : Str, y = .str z ∧ 0 < z.length ∧ z.length ≤ 1000 ∧ ∀ (c : Nat) (n' L' : Int) (H' : Hp), c ∈ z.cps.toList → Dr H H' d l ms n n' L' 1 → Q (.str ⟨#[c]⟩) H') ∨
   ∃ (a : Addr) (xs : List V), y = .ref a ∧ H a = some (.lst xs) ∧ 0 < xs.length ∧ xs.length ≤ 1000 ∧ ∀ (x : V) (n' L' : Int) (H' : Hp), x ∈ xs → Dr H H' d l ms n n' L' 1 → Q x H')
abbrev sPick : Stmt := top 12
theorem scPick : FnScope ["_law_held", "_law_some"] ["_law_held", "_law_some"] (defScope sPick) := ⟨rfl, rfl, rfl, by decide +kernel, rfl, by decide +kernel, by decide +kernel⟩
theorem atI_of {α : Type} {xs : List α} {r : Int} (h0 : 0 ≤ r) (h1 : r < (xs.length : Int)) : ∃ x, x ∈ xs ∧ atI xs r = some x ∧ xs[r.toNat]? = some x := by
  have hl : r.toNat < xs.length := by omega
  have e := atI_nat (List.getElem?_eq_getElem hl)
  rw [Int.toNat_of_nonneg h0] at e
  exact ⟨_, List.getElem_mem hl, e, List.getElem?_eq_getElem hl⟩
theorem ok_pick {f fD : Addr} {fd dD : FuncData} (F : Fun K "_law_pick" "_law_pick" sPick f fd) (GD : FnOk P w K mg pB CX0 1 fD dD ["_law_held", "_law_many"] spDraw) (mD : mg "_law_draw" = some (.ref fD)) (kD : PySem.W.keepIn K (.ref fD) = true) (bD : Binds K dD ["_law_held", "_law_many"] [])
    (mLen : mg "len" = none) : FnOk P w K mg pB CX0 2 f fd ["_law_held", "_law_some"] spPick := by
  refine F.ok scPick (fun vs H Q E h => ?_) (fun cdv A outer s H vs Q E hr h => ?_)
  · obtain ⟨d, l, ms, n, L, y, rfl, _⟩ := h
    rfl
  · obtain ⟨d, l, ms, n, L, y, rfl, p, hn, k⟩ := h
    refine ⟨_, pss_one (ps_ret (pe_ix ix_seq (pv 1) (pe_call GD hr rfl mD kD bD .nil pass0 (pa_cons (pv 0) (pa_cons (pe_callB call_len (by rfl) mLen PySem.boot_len (pa_cons (pv 1) pa_nil)) pa_nil))) (fun _ _ => rfl))), ?_⟩
    rcases k with ⟨z, rfl, z0, z1, k⟩ | ⟨a, xs, rfl, ha, z0, z1, k⟩
    · have ez : z.length = z.cps.toList.length := by simp [Str.length]
      have hz : z.length ≤ sizeLine := Nat.le_trans z1 (by decide)
      refine ⟨_, rfl, rd_dr (m := (z.length : Int)) rfl (fun _ h => ⟨_, rfl, _, z.length, rfl, ⟨hz, rfl⟩, h⟩) p (by omega) (by omega) (by omega) fun r n' L' H' r0 r1 x => ?_⟩
      obtain ⟨c, hcm, hc, _⟩ := atI_of (xs := z.cps.toList) r0 (by omega)
      exact .inr (.inr ⟨z, _, c, rfl, rfl, hz, hc, k c n' L' H' hcm x⟩)
    · refine ⟨_, rfl, rd_dr (m := (xs.length : Int)) rfl (fun _ h => ⟨_, rfl, _, xs.length, rfl, .inl ⟨_, SqL.of ha, rfl⟩, h⟩) p (by omega) (by omega) (by omega) fun r n' L' H' r0 r1 x => ?_⟩
      obtain ⟨y, hy, hc, _⟩ := atI_of (xs := xs) r0 r1
      have ha' := x.kp _ _ ha (ne_of ha p.dc (by intro z; cases z))
      exact .inl ⟨a, xs, _, y, rfl, rfl, SqL.of ha', hc, k y n' L' H' hy x⟩
end
end My

set_option Elab.async false
set_option linter.all false
set_option maxRecDepth 100000
set_option maxHeartbeats 4000000
namespace My
open PySem L2
theorem asg_n {te : TE} {i : Nat} {b : TS} {D : Ends} {σ : L2.St} {H : Hp} (h : te σ H fun x H1 => b D (σ.set i (some x)) H1) : tSeq (tAsg te (gName i)) b D σ H := h
theorem call_of {sp : Sp} {t : TA} {σ : L2.St} {H : Hp} {Q : VK} (h : t σ H fun vs H1 => sp (vs ++ []) H1 Q E0) : tCall sp [] E0 t σ H Q := h
section
variable {P : Program} {w : World} {K : PySem.W.Frag} {mg : Str → Option Value} {pB : Heap}
theorem Dr.upd {H H' : Hp} {d l D : Addr} {ms : List Int} {n n' L L' b : Int} {o : HO} (x : Dr H H' d l ms n n' L' b) (p : Pen H d l ms n L) (hD : H D = none) : Dr H (L2.upd H' D o) d l ms n n' L' b :=
  ⟨fun c u e nc => by rw [upd_ne (ne_of_none e hD)]; exact x.kp c u e nc, ⟨by rw [upd_ne (ne_of_none p.dc hD)]; exact x.pn.dc, by rw [upd_ne (ne_of_none p.ls hD)]; exact x.pn.ls, x.pn.n0, x.pn.l0⟩, x.lo, x.hi⟩
theorem Pen.same {H H' : Hp} {d l : Addr} {ms : List Int} {n L : Int} (p : Pen H d l ms n L) (s : Same H H') : Pen H' d l ms n L := ⟨s _ _ p.dc, s _ _ p.ls, p.n0, p.l0⟩
theorem join0_tl (cs : List Nat) : TL.tl (Txt.join "" (cs.map fun c => (⟨#[c]⟩ : Str))) = cs := by
  rw [TL.join_eq, TL.tl_join, show TL.tl ("" : Str) = [] by decide +kernel]
  have h : ∀ ps : List (List Nat), TL.joinL [] ps = ps.flatten := by
    intro ps
    induction ps with
    | nil => rfl
    | cons p ps ih =>
      cases ps with
      | nil => simp [TL.joinL]
      | cons q r =>
        show p ++ ([] ++ TL.joinL [] (q :: r)) = _
        rw [ih, List.nil_append, List.flatten_cons (l := p)]
  rw [h, List.map_map]
  induction cs with
  | nil => rfl
  | cons c cs ih =>
    rw [List.map_cons, List.flatten_cons, ih]
    rfl
theorem join0_len (cs : List Nat) : (Txt.join "" (cs.map fun c => (⟨#[c]⟩ : Str))).length = cs.length := by
  rw [TL.len_tl, join0_tl]
theorem sum_ones (cs : List Nat) : ((cs.map fun c => (⟨#[c]⟩ : Str)).map (·.length)).sum = cs.length := by
  induction cs with
  | nil => rfl
  | cons c cs ih =>
    rw [List.map_cons, List.map_cons, List.sum_cons, ih, List.length_cons]
    show 1 + cs.length = _
    omega
def wd8 : List Str := ["say", "kept", "none", "a", "z", "abcdefgh", "zzzzzzzz", "post"]
theorem wd8_wd : ∀ x ∈ wd8, isWd x = true := by decide +kernel
theorem wd8_len : ∀ x ∈ wd8, x.length ≤ 8 := by decide +kernel
def spWord : Sp := fun vs H Q _ => ∃ (d l : Addr) (ms : List Int) (n L : Int), vs = [.ref d] ∧ Pen H d l ms n L ∧ n < 2 ^ 38 ∧ ∀ (x : Str) (n' L' : Int) (H' : Hp), x.length ≤ 8 → isWd x = true → Dr H H' d l ms n n' L' 20 → Q (.str x) H'
abbrev sWord : Stmt := top 13
theorem scWord : FnScope ["_law_held", "_law_some", "_law_letters", "_law_drawn", "_law_k"] ["_law_held"] (defScope sWord) := ⟨rfl, rfl, rfl, by decide +kernel, rfl, by decide +kernel, by decide +kernel⟩
theorem ok_word {f fD fP : Addr} {fd dD dP : FuncData} (F : Fun K "_law_word" "_law_word" sWord f fd) (GD : FnOk P w K mg pB CX0 1 fD dD ["_law_held", "_law_many"] spDraw) (mD : mg "_law_draw" = some (.ref fD)) (kD : PySem.W.keepIn K (.ref fD) = true) (bD : Binds K dD ["_law_held", "_law_many"] [])
    (GP : FnOk P w K mg pB CX0 2 fP dP ["_law_held", "_law_some"] spPick) (mP : mg "_law_pick" = some (.ref fP)) (kP : PySem.W.keepIn K (.ref fP) = true) (bP : Binds K dP ["_law_held", "_law_some"] []) (mR : mg "range" = none) :
    FnOk P w K mg pB CX0 3 f fd ["_law_held"] spWord := by
  refine F.ok scWord (fun vs H Q E h => ?_) (fun cdv A outer s H vs Q E hr h => ?_)
  · obtain ⟨d, l, ms, n, L, rfl, _⟩ := h
    rfl
  · obtain ⟨d, l, ms, n, L, rfl, p, hn, k⟩ := h
    have nd := scWord.nd
    have hr1 : Room 1 _ := hr.mono (by decide)
    refine ⟨_, pss_cons (ps_set (i := 1) nd rfl (Or.inl rfl) (pe_lst (pa_cons pe_str (pa_cons pe_str (pa_cons pe_str (pa_cons pe_str (pa_cons pe_str (pa_cons pe_str (pa_cons pe_str (pa_cons pe_str pa_nil))))))))))
      (pss_cons (ps_set (i := 2) nd rfl (Or.inr rfl) pe_str)
      (pss_cons (ps_set (i := 3) nd rfl (Or.inl rfl) (pe_join pe_str
        (pe_lc (own := [("_law_k", 4)]) (g := gName 4) (tt := tYes) (te := tCall spPick [] E0 (tCons (tVar 0) (tCons (tVar 2) tNil))) rfl nd
          (pi_range1 rfl mR (pa_cons (pe_op op_add pe_int (pe_call GD hr1 rfl mD kD bD .nil pass0 (pa_cons (pv 0) (pa_cons pe_int pa_nil)))) pa_nil))
          (blkOk_by (N := ["_law_held", "_law_some", "_law_letters", "_law_drawn", "_law_k"]) (sc := defScope sWord) (by decide +kernel)) (fun _ _ _ _ _ => pg_name (i := 4) nd rfl (Or.inl rfl) (Or.inr rfl)) (fun _ _ _ _ _ => pts_nil)
          (fun _ _ _ _ _ => pe_call GP hr rfl mP kP bP .nil pass0 (pa_cons (pv 0) (pa_cons (pv 2) pa_nil))))))
      (pss_one (ps_ret (pe_ix ix_list (pe_lst (pa_cons (pv 3) (pa_cons (pe_call GP hr rfl mP kP bP .nil pass0 (pa_cons (pv 0) (pa_cons (pv 1) pa_nil))) pa_nil)))
        (pe_call GD hr1 rfl mD kD bD .nil pass0 (pa_cons (pv 0) (pa_cons pe_int pa_nil))) (fun _ _ => rfl)))))), ?_⟩
    refine asg_n (lst_of ⟨by show 8 ≤ sizeLine; decide, fun ls hls => ?_⟩)
    have s1 : Same H (upd H ls (.lst (wd8.map V.str))) := Same.new (Same.refl _) hls
    have c1 : (upd H ls (.lst (wd8.map V.str))) ls = some (.lst (wd8.map V.str)) := upd_same
    have p1 := p.same s1
    change tSeq _ _ _ _ (upd H ls (.lst (wd8.map V.str)))
    generalize upd H ls (.lst (wd8.map V.str)) = H1 at s1 c1 p1 ⊢
    refine asg_n (te := tC _) (asg_n ?_)
    refine ⟨⟨_, rfl⟩, rd_dr (m := 8) rfl (fun _ h => h) p1 (by omega) (by decide) (by decide) fun r n1 L1 H2 r0 r1 x1 => ⟨_, _, rfl, rfl, _, rfl, by omega, by omega, fun D hD => ?_⟩⟩
    refine lc_range (lo := 0) (n := (1 + r).toNat) (fun i H' => ∃ (n' L' : Int) (cs : List Nat), Dr H2 H' d l ms n1 n' L' i ∧ (cs.length = i ∧ ∀ c ∈ cs, c ∈ letters) ∧ H' D = some (.lst ((cs.map fun c => (⟨#[c]⟩ : Str)).map V.str))) ⟨n1, L1, [], (Dr.refl x1.pn).same (Same.new (Same.refl _) hD), ⟨rfl, fun c h => nomatch h⟩, upd_same⟩ (fun i H' hi p => ?_) (fun H' p => ?_)
    · obtain ⟨n', L', cs, x, ⟨hc, hcl⟩, hD'⟩ := p
      have := x1.hi
      have := x.hi
      refine ⟨rfl, yes_of (iteT (call_of ⟨_, rfl, _, rfl, d, l, ms, n', L', _, rfl, x.pn, by omega, .inl ⟨_, rfl, by decide +kernel, by decide +kernel, fun c n2 L2 H3 hcm y => ?_⟩⟩))⟩
      have hD3 := y.kp _ _ hD' (ne_of hD' x.pn.dc (by intro z; cases z))
      refine ⟨_, hD3, ?_, n2, L2, cs ++ [c], ?_, ⟨by rw [List.length_append, hc]; rfl, fun q hq => (List.mem_append.mp hq).elim (hcl q) fun z => by rw [List.mem_singleton.mp z]; exact hcm⟩, ?_⟩
      · rw [List.length_map, List.length_map]
        exact Nat.lt_of_le_of_lt (show cs.length ≤ 10 by omega) (by decide)
      · exact ((x.trans y).upd x1.pn hD).wk (by omega)
      · rw [upd_same]; simp
    · obtain ⟨n', L', cs, x, ⟨hc, hcl⟩, hD'⟩ := p
      have := x1.hi
      have := x.hi
      refine ⟨_, D, _, rfl, rfl, .inl (SqL.of hD'), ?_, ?_⟩
      · rw [sum_ones, List.length_map, show Str.length "" = 0 by decide +kernel]; omega
      · have hlen := join0_len cs
        have hwd : isWd (Txt.join (Str.ofString "") (cs.map fun c => (⟨#[c]⟩ : Str))) = true := by
          unfold isWd
          rw [Bool.and_eq_true]
          refine ⟨decide_eq_true ⟨by rw [hlen]; omega, by rw [hlen]; omega⟩, List.all_eq_true.mpr fun c hc' => decide_eq_true (hcl c ?_)⟩
          have e := join0_tl cs
          rw [← e]
          exact hc'
        generalize Txt.join (Str.ofString "") (cs.map fun c => (⟨#[c]⟩ : Str)) = wdr at hlen hwd ⊢
        have xx := x1.trans x
        have c2 : H' ls = some (.lst (wd8.map V.str)) := xx.kp _ _ c1 (ne_of c1 p1.dc (by intro z; cases z))
        refine ⟨_, rfl, call_of ⟨_, rfl, _, rfl, d, l, ms, n', L', _, rfl, x.pn, by omega, .inr ⟨ls, _, rfl, c2, by decide, by decide, fun y n3 L3 H4 hy x4 => ?_⟩⟩⟩
        obtain ⟨yw, hyw, rfl⟩ := List.mem_map.mp hy
        refine ⟨by show 2 ≤ sizeLine; decide, fun q hq => ?_⟩
        have s5 : Same H4 (upd H4 q (.lst [.str wdr, .str yw])) := Same.new (Same.refl _) hq
        have := x4.hi
        refine rd_dr (m := 2) rfl (fun _ h => h) (x4.pn.same s5) (by omega) (by decide) (by decide) fun r6 n6 L6 H6 r60 r61 x6 => ?_
        have cq : H6 q = some (.lst [.str wdr, .str yw]) := x6.kp _ _ upd_same (ne_of upd_same (x4.pn.same s5).dc (by intro z; cases z))
        have tot : Dr H H6 d l ms n n6 L6 20 := ((((Dr.refl p).same s1).trans xx).trans ((x4.same s5).trans x6)).wk (by omega)
        obtain ⟨v, hv, hat, _⟩ := atI_of (xs := [V.str wdr, V.str yw]) r60 r61
        refine ⟨q, _, _, v, rfl, rfl, SqL.of cq, hat, ?_⟩
        rcases List.mem_cons.mp hv with rfl | hv
        · exact k wdr n6 L6 H6 (by omega) hwd tot
        · rw [List.mem_singleton.mp hv]
          exact k yw n6 L6 H6 (wd8_len yw hyw) (wd8_wd yw hyw) tot
end
end My

set_option Elab.async false
set_option linter.all false
set_option maxRecDepth 100000
set_option maxHeartbeats 4000000
namespace My
open PySem L2
mutual
/-- the texts in a worth, or in names -/
def txD : PyData → List Str
  | .tuple ds => txL ds
  | .str x => [x]
  | .none => []
  | .bool _ => []
  | .int _ => []
  | .list _ => []
  | .dict _ => []
def txL : List PyData → List Str
  | [] => []
  | d :: ds => txD d ++ txL ds
end
theorem txL_app : ∀ (xs ys : List PyData), txL (xs ++ ys) = txL xs ++ txL ys
  | [], ys => by simp [txL]
  | x :: xs, ys => by
    rw [List.cons_append, txL, txL, txL_app xs ys, List.append_assoc]
theorem txL_strs : ∀ ys : List Str, txL (ys.map PyData.str) = ys
  | [] => by simp [txL]
  | y :: ys => by
    rw [List.map_cons, txL, txD, txL_strs ys]; rfl
theorem nxt_of {a b : TS} {D : Ends} {r : VK} {k c : L2.St → Hp → Prop} {σ : L2.St} {H : Hp} (h : tSeq a b D σ H) : tNext { nx := tSeq a b D, rt := r, bk := k, ct := c } σ H := h
section
variable {P : Program} {w : World} {K : PySem.W.Frag} {mg : Str → Option Value} {pB : Heap}
theorem base_mono2 {H H' : Hp} {T T' : V → List PyData → Prop} {v : V} {d : PyData} (hl : ∀ a xs, H a = some (.lst xs) → ∃ xs', H' a = some (.lst xs')) (hd : ∀ a, H a = some (.dK []) → H' a = some (.dK [])) (ht : ∀ ds, T v ds → T' v ds)
    (h : base H T v d) : base H' T' v d := by
  cases d with
  | none => exact h
  | bool b => exact h
  | int i => exact h
  | str x => exact h
  | list ds =>
    obtain ⟨a, xs, e, q⟩ := h
    obtain ⟨xs', q'⟩ := hl a xs q
    exact ⟨a, xs', e, q'⟩
  | dict kvs =>
    obtain ⟨a, e, q⟩ := h
    exact ⟨a, e, hd a q⟩
  | tuple ds => exact ht ds h
/-- a list may grow -/
theorem Rep.updL {H : Hp} {D : Addr} {ys zs : List V} (hD : H D = some (.lst ys)) : ∀ {n : Nat} {v : V} {x : PyData}, Rep H n v x → Rep (L2.upd H D (.lst zs)) n v x := by
  have kl : ∀ a xs, H a = some (.lst xs) → ∃ xs', (L2.upd H D (.lst zs)) a = some (.lst xs') := fun a xs e => by
    by_cases h : a = D
    · exact ⟨zs, by rw [h, upd_same]⟩
    · exact ⟨xs, by rw [upd_ne h]; exact e⟩
  have kd : ∀ a, H a = some (.dK []) → (L2.upd H D (.lst zs)) a = some (.dK []) := fun a e => by
    rw [upd_ne (ne_of e hD (by intro z; cases z))]; exact e
  intro n
  induction n with
  | zero => exact fun h => base_mono2 kl kd (fun _ z => z) h
  | succ n ih => exact fun h => base_mono2 kl kd (fun ds ⟨a, xs, e, q, p⟩ => ⟨a, xs, e, by rw [upd_ne (ne_of q hD (by intro z; cases z))]; exact q, Paired.mapP p fun _ _ z => ih z⟩) h
def bW : Nat → Int
  | 0 => 30
  | k + 1 => 30 + 20 * bW k
theorem bW_pos : ∀ k, 30 ≤ bW k
  | 0 => by decide
  | k + 1 => by have := bW_pos k; rw [bW]; omega
def mny (k : Nat) : Nat := if k = 1 then 20 else 3
def wS : Nat → Nat
  | 0 => 9
  | k + 1 => 9 + mny (k + 1) * wS k
theorem wS_9 : ∀ k, 9 ≤ wS k
  | 0 => by decide
  | k + 1 => by rw [wS]; omega
def lS : Nat → Nat
  | 0 => 1
  | k + 1 => 1 + mny (k + 1) * lS k
theorem lS_1 : ∀ k, 1 ≤ lS k
  | 0 => by decide
  | k + 1 => by rw [lS]; omega
def spWor (k : Nat) : Sp := fun vs H Q _ => ∃ (d l : Addr) (ms : List Int) (n L : Int), vs = [.ref d, .int (k : Int)] ∧ Pen H d l ms n L ∧ n + bW k ≤ 2 ^ 37 ∧
  ∀ (v : V) (x : PyData) (n' L' : Int) (H' : Hp), Rep H' k v x → (szD x ≤ wS k ∧ (txD x).length ≤ lS k) → isW k x = true → Dr H H' d l ms n n' L' (bW k) → Q v H'
def spPrevW : Nat → Sp
  | 0 => spBot
  | k + 1 => spWor k
theorem rep_i {H : Hp} {k : Nat} (i : Int) : Rep H k (.int i) (.int i) := by cases k <;> rfl
theorem rep_s {H : Hp} {k : Nat} (x : Str) : Rep H k (.str x) (.str x) := by cases k <;> rfl
theorem rep_n {H : Hp} {k : Nat} : Rep H k .non .none := by cases k <;> rfl
theorem rep_t {H : Hp} {k : Nat} {a : Addr} {xs : List V} {ds : List PyData} (h : H a = some (.tup xs)) (p : Paired (Rep H k) xs ds) : Rep H (k + 1) (.ref a) (.tuple ds) := ⟨a, xs, rfl, h, p⟩
abbrev sWor : Stmt := top 14
theorem scWor : FnScope ["_law_held", "_law_within", "_law_lot", "_law_many", "_law_k"] ["_law_held", "_law_within"] (defScope sWor) := ⟨rfl, rfl, rfl, by decide +kernel, rfl, by decide +kernel, by decide +kernel⟩
theorem step_wor {f fD fV : Addr} {fd dD dV : FuncData} (F : Fun K "_law_worth" "_law_worth" sWor f fd) (k : Nat) (G : FnOk P w K mg pB CX0 (k + 3) f fd ["_law_held", "_law_within"] (spPrevW k)) (mG : mg "_law_worth" = some (.ref f)) (bG : Binds K fd ["_law_held", "_law_within"] [])
    (GD : FnOk P w K mg pB CX0 1 fD dD ["_law_held", "_law_many"] spDraw) (mD : mg "_law_draw" = some (.ref fD)) (kD : PySem.W.keepIn K (.ref fD) = true) (bD : Binds K dD ["_law_held", "_law_many"] [])
    (GV : FnOk P w K mg pB CX0 3 fV dV ["_law_held"] spWord) (mV : mg "_law_word" = some (.ref fV)) (kV : PySem.W.keepIn K (.ref fV) = true) (bV : Binds K dV ["_law_held"] [])
    (mInt : mg "int" = none) (mT : mg "tuple" = none) (mR : mg "range" = none) : FnOk P w K mg pB CX0 (k + 4) f fd ["_law_held", "_law_within"] (spWor k) := by
  refine F.ok scWor (fun vs H Q E h => ?_) (fun cdv A outer s H vs Q E hr h => ?_)
  · obtain ⟨d, l, ms, n, L, rfl, _⟩ := h
    rfl
  · obtain ⟨d, l, ms, n, L, rfl, p, hn, kont⟩ := h
    have nd := scWor.nd
    have hr1 : Room 1 _ := hr.mono (by omega)
    have hr3 : Room 3 _ := hr.mono (by omega)
    have hb := bW_pos k
    refine ⟨_, pss_cons (ps_set (i := 2) nd rfl (Or.inl rfl) (pe_call GD hr1 rfl mD kD bD .nil pass0 (pa_cons (pv 0) (pa_cons (pe_op op_add pe_int (pe_callTy call_int1 (by rfl) mInt (by decide +kernel) (pa_cons (pe_cmpR op_gt (pv 1) pe_int (nomark _)) pa_nil))) pa_nil))))
      (pss_cons (ps_if (pt_cmpR op_lt (pv 2) pe_int (nomark _)) (pss_one (ps_ret (pe_ix ix_list (pe_lst (pa_cons pe_non (pa_cons (pe_call GV hr3 rfl mV kV bV .nil pass0 (pa_cons (pv 0) pa_nil)) pa_nil))) (pv 2) (fun _ _ => rfl)))) pss_nil)
      (pss_cons (ps_if (pt_cmpR op_eq (pv 2) pe_int (nomark _)) (pss_one (ps_ret (pe_op op_sub (pe_call GD hr1 rfl mD kD bD .nil pass0 (pa_cons (pv 0) (pa_cons pe_int pa_nil))) pe_int))) pss_nil)
      (pss_cons (ps_if (pt_cmpR op_eq (pv 2) pe_int (nomark _)) (pss_one (ps_ret (pe_ix ix_list (pe_lst (pa_cons pe_int (pa_cons (pe_un un_neg pe_int) (pa_cons pe_int (pa_cons (pe_un un_neg pe_int) pa_nil)))))
          (pe_call GD hr1 rfl mD kD bD .nil pass0 (pa_cons (pv 0) (pa_cons pe_int pa_nil))) (fun _ _ => rfl)))) pss_nil)
      (pss_cons (ps_set (i := 3) nd rfl (Or.inl rfl) (pe_ix ix_list (pe_lst (pa_cons (pe_call GD hr1 rfl mD kD bD .nil pass0 (pa_cons (pv 0) (pa_cons pe_int pa_nil))) (pa_cons pe_int pa_nil)))
          (pe_callTy call_int1 (by rfl) mInt (by decide +kernel) (pa_cons (pe_and (pe_cmpR op_eq (pv 1) pe_int (nomark _)) (pe_one (pe_cmpR op_eq (pe_call GD hr1 rfl mD kD bD .nil pass0 (pa_cons (pv 0) (pa_cons pe_int pa_nil))) pe_int (nomark _)))) pa_nil)) (fun _ _ => rfl)))
      (pss_one (ps_ret (pe_tupleOf (by rfl) mT
        (pe_lc (own := [("_law_k", 4)]) (g := gName 4) (tt := tYes) (te := tCall (spPrevW k) [] E0 (tCons (tVar 0) (tCons (tOp (rI0 fun i j => .int (i - j)) (tVar 1) (tC (.int 1))) tNil))) rfl nd
          (pi_range1 rfl mR (pa_cons (pv 3) pa_nil))
          (blkOk_by (N := ["_law_held", "_law_within", "_law_lot", "_law_many", "_law_k"]) (sc := defScope sWor) (by decide +kernel)) (fun _ _ _ _ _ => pg_name (i := 4) nd rfl (Or.inl rfl) (Or.inr rfl)) (fun _ _ _ _ _ => pts_nil)
          (fun _ _ _ _ _ => pe_call G hr rfl mG F.kp bG .nil pass0 (pa_cons (pv 0) (pa_cons (pe_op op_sub (pv 1) pe_int) pa_nil))))))))))), ?_⟩
    refine asg_n (rd_dr rfl (fun _ h => ⟨_, rfl, _, _, rfl, rfl, .inr ⟨_, rfl, _, _, rfl, rfl, h⟩⟩) p (by omega) (by split <;> omega) (by split <;> omega) fun lot n1 L1 H1 r0 r1 x1 => ?_)
    have h1 := x1.hi
    have leafK : ∀ (v : V) (t : PyData) (n' L' : Int) (H' : Hp), Rep H' k v t → (szD t ≤ 9 ∧ (txD t).length ≤ 1) → isW k t = true → Dr H1 H' d l ms n1 n' L' 29 → Q v H' := fun v t n' L' H' hr hs hw x => kont v t n' L' H' hr ⟨Nat.le_trans hs.1 (wS_9 k), Nat.le_trans hs.2 (lS_1 k)⟩ hw ((x1.trans x).wk (by omega))
    refine ⟨_, rfl, _, _, rfl, rfl, _, rfl, ite2 (fun c => ?_) (fun c => ?_)⟩
    · have c := of_decide_eq_true c
      refine ⟨_, rfl, d, l, ms, n1, L1, rfl, x1.pn, by omega, fun xw n2 L2 H2 hx hxw x2 => ⟨by show 2 ≤ sizeLine; decide, fun q hq => ?_⟩⟩
      have s3 : Same H2 (upd H2 q (.lst [.non, .str xw])) := Same.new (Same.refl _) hq
      obtain ⟨v, hv, hat, _⟩ := atI_of (xs := [V.non, V.str xw]) r0 c
      refine ⟨_, rfl, q, _, _, v, rfl, rfl, SqL.of upd_same, hat, ?_⟩
      rcases List.mem_cons.mp hv with rfl | hv
      · exact leafK .non .none n2 L2 _ rep_n ⟨by decide, Nat.zero_le _⟩ (by rw [isW_leaf (by intro ds z; cases z)]; rfl) ((x2.same s3).wk (by omega))
      · rw [List.mem_singleton.mp hv]
        exact leafK (.str xw) (.str xw) n2 L2 _ (rep_s xw) ⟨by rw [szD]; omega, Nat.le_refl 1⟩ (by rw [isW_leaf (by intro ds z; cases z)]; exact hxw) ((x2.same s3).wk (by omega))
    refine ⟨_, rfl, rfl, _, rfl, ite2 (fun c2 => ?_) (fun c2 => ?_)⟩
    · refine rd_dr (m := 2001) rfl (fun _ h => h) x1.pn (by omega) (by decide) (by decide) fun r n2 L2 H2 q0 q1 x2 => ⟨_, _, rfl, rfl, ?_⟩
      exact leafK _ (.int _) n2 L2 H2 (rep_i _) ⟨show 1 ≤ 9 by decide, Nat.zero_le _⟩ (by rw [isW_leaf (by intro ds z; cases z)]; exact decide_eq_true ⟨by omega, by omega⟩) (x2.wk (by decide))
    refine ⟨_, rfl, rfl, _, rfl, ite2 (fun c3 => ?_) (fun c3 => ?_)⟩
    · refine ⟨_, rfl, _, rfl, by show 4 ≤ sizeLine; decide, fun q hq => ?_⟩
      have s2 : Same H1 (upd H1 q (.lst [.int 1000000000, .int (-1000000000), .int 0, .int (-1)])) := Same.new (Same.refl _) hq
      refine rd_dr (m := 4) rfl (fun _ h => h) (x1.pn.same s2) (by omega) (by decide) (by decide) fun r n2 L2 H2 q0 q1 x2 => ?_
      have cq : H2 q = some (.lst [.int 1000000000, .int (-1000000000), .int 0, .int (-1)]) := x2.kp _ _ upd_same (ne_of upd_same (x1.pn.same s2).dc (by intro z; cases z))
      obtain ⟨v, hv, hat, _⟩ := atI_of (xs := [V.int 1000000000, V.int (-1000000000), V.int 0, V.int (-1)]) q0 q1
      refine ⟨q, _, _, v, rfl, rfl, SqL.of cq, hat, ?_⟩
      have hx : ∃ i : Int, v = .int i ∧ -1000000000 ≤ i ∧ i ≤ 1000000000 := by
        simp only [List.mem_cons, List.mem_nil_iff, or_false] at hv
        rcases hv with rfl | rfl | rfl | rfl <;> exact ⟨_, rfl, by decide, by decide⟩
      obtain ⟨i, rfl, hi1, hi2⟩ := hx
      exact leafK _ (.int i) n2 L2 H2 (rep_i i) ⟨show 1 ≤ 9 by decide, Nat.zero_le _⟩ (by rw [isW_leaf (by intro ds z; cases z)]; exact decide_eq_true ⟨hi1, hi2⟩) ((((Dr.refl x1.pn).same s2).trans x2).wk (by decide))
    have hk : 0 < k := by
      rcases Nat.eq_zero_or_pos k with z | z
      · subst z
        exfalso
        have c' : ¬ lot < 2 := fun z => c (decide_eq_true z)
        have c2 : ¬ lot = 2 := fun z => c2 (decide_eq_true (by rw [z]))
        have c3 : ¬ lot = 3 := fun z => c3 (decide_eq_true (by rw [z]))
        rw [if_neg (by simp)] at r1
        omega
      · exact z
    obtain ⟨j, rfl⟩ : ∃ j, k = j + 1 := ⟨k - 1, by omega⟩
    have hbj : bW (j + 1) = 30 + 20 * bW j := rfl
    have hbj0 := bW_pos j
    refine nxt_of (asg_n ?_)
    refine rd_dr (m := 4) rfl (fun _ h => h) x1.pn (by omega) (by decide) (by decide) fun r4 n2 L2 H2 q0 q1 x2 => ⟨by show 2 ≤ sizeLine; decide, fun q hq => ?_⟩
    have s3 : Same H2 (upd H2 q (.lst [.int r4, .int 20])) := Same.new (Same.refl _) hq
    have h2 := x2.hi
    have rest : ∀ (b : Bool) (n3 L3 : Int) (H3 : Hp), (b = true → j = 0) → Dr (upd H2 q (.lst [.int r4, .int 20])) H3 d l ms n2 n3 L3 1 →
        ∃ many : Nat, many ≤ mny (j + 1) ∧ atI [V.int r4, V.int 20] (if b = true then 1 else 0) = some (V.int (many : Int)) ∧ H3 q = some (.lst [.int r4, .int 20]) := by
      intro b n3 L3 H3 hb x3
      have cq : H3 q = some (.lst [.int r4, .int 20]) := x3.kp _ _ upd_same (ne_of upd_same (x2.pn.same s3).dc (by intro z; cases z))
      cases b with
      | true =>
        refine ⟨20, ?_, rfl, cq⟩
        rw [hb rfl]; decide
      | false =>
        refine ⟨r4.toNat, ?_, ?_, cq⟩
        · unfold mny
          split <;> omega
        · rw [Int.toNat_of_nonneg q0]; rfl
    have fin : ∀ (many : Nat) (n3 L3 : Int) (H3 : Hp), many ≤ mny (j + 1) → Dr (upd H2 q (.lst [.int r4, .int 20])) H3 d l ms n2 n3 L3 1 →
        tThen (tLc (iRng1 (tCons (tVar 3) tNil)) (gName 4) tYes (tCall (spPrevW (j + 1)) [] E0 (tCons (tVar 0) (tCons (tOp (rI0 fun i j => V.int (i - j)) (tVar 1) (tC (V.int 1))) tNil))) [4]) (kTup K)
          [some (.ref d), some (.int ((j + 1 : Nat) : Int)), some (.int lot), some (.int (many : Int)), none] H3 Q := by
      intro many n3 L3 H3 hm x3
      have hm20 : many ≤ 20 := Nat.le_trans hm (by unfold mny; split <;> decide)
      have h3 := x3.hi
      refine ⟨_, rfl, _, rfl, by omega, by omega, fun D hD => ?_⟩
      refine lc_range (lo := 0) (n := (many : Int).toNat) (fun i H' => ∃ (n' L' : Int) (ys : List V) (ts : List PyData), Dr H3 H' d l ms n3 n' L' ((i : Int) * bW j) ∧ ys.length = i ∧ H' D = some (.lst ys) ∧ Paired (Rep H' j) ys ts ∧ (szL ts ≤ i * wS j ∧ (txL ts).length ≤ i * lS j) ∧ ∀ t ∈ ts, isW j t = true)
        ⟨n3, L3, [], [], ((Dr.refl x3.pn).same (Same.new (Same.refl _) hD)).wk (by simp), rfl, upd_same, .nil, ⟨by simp [szL], by simp [txL]⟩, fun t h => nomatch h⟩ (fun i H' hi p => ?_) (fun H' p => ?_)
      · obtain ⟨n', L', ys, ts, x, hl, hD', hp, hs, hws⟩ := p
        have h4 := x.hi
        have hi20 : i < 20 := by omega
        have hmul : (i : Int) * bW j ≤ 19 * bW j := Int.mul_le_mul_of_nonneg_right (by omega) (by omega)
        refine ⟨rfl, yes_of (iteT (call_of ⟨_, rfl, _, rfl, _, _, rfl, rfl, d, l, ms, n', L', ?_, x.pn, by omega, fun v t n5 L5 H5 hr5 hs5 hw5 x5 => ?_⟩))⟩
        · show [V.ref d, V.int (((j + 1 : Nat) : Int) - 1)] = [V.ref d, V.int (j : Int)]
          rw [show (((j + 1 : Nat) : Int) - 1) = (j : Int) by omega]
        · have hD5 := x5.kp _ _ hD' (ne_of hD' x.pn.dc (by intro z; cases z))
          refine ⟨ys, hD5, Nat.lt_of_le_of_lt (show ys.length ≤ 20 by omega) (by decide), n5, L5, ys ++ [v], ts ++ [t], ?_, by rw [List.length_append, hl]; rfl, upd_same, ?_, ?_, fun q hq => (List.mem_append.mp hq).elim (hws q) fun z => by rw [List.mem_singleton.mp z]; exact hw5⟩
          · refine ((x.trans x5).upd x3.pn hD).wk ?_
            rw [show (((i + 1 : Nat) : Int)) = (i : Int) + 1 by omega, Int.add_mul, Int.one_mul]
            exact Int.le_refl _
          · exact Paired.snoc (Paired.mapP hp fun _ _ z => (x5.rep x.pn z).updL hD5) (hr5.updL hD5)
          · exact ⟨by rw [szL_app, szL, szL, Nat.succ_mul]; omega, by rw [txL_app, txL, txL, List.append_nil, List.length_append, Nat.succ_mul]; omega⟩
      · obtain ⟨n', L', ys, ts, x, hl, hD', hp, hs, hws⟩ := p
        have h4 := x.hi
        have hmm : ((many : Int).toNat : Int) = (many : Int) := by omega
        refine .inl ⟨D, ys, rfl, SqL.of hD', fun tq htq => ?_⟩
        have s7 : Same H' (upd H' tq (.tup ys)) := Same.new (Same.refl _) htq
        refine kont (.ref tq) (.tuple ts) n' L' _ (rep_t upd_same (Paired.mapP hp fun _ _ z => z.same s7)) ?_ (by rw [isW, Bool.and_eq_true]; exact ⟨decide_eq_true (by have := Paired.length hp; omega), List.all_eq_true.mpr hws⟩) ?_
        · have w1 : (many : Int).toNat * wS j ≤ mny (j + 1) * wS j := Nat.mul_le_mul_right _ (by omega)
          have w2 : (many : Int).toNat * lS j ≤ mny (j + 1) * lS j := Nat.mul_le_mul_right _ (by omega)
          exact ⟨by rw [szD, wS]; omega, by rw [txD, lS]; omega⟩
        · have hmul : ((many : Int).toNat : Int) * bW j ≤ 20 * bW j := Int.mul_le_mul_of_nonneg_right (by omega) (by omega)
          exact ((x1.trans ((x2.same s3).trans (x3.trans x))).same s7).wk (by omega)
    refine ⟨_, rfl, rfl, _, rfl, ite2 (fun c4 => ?_) (fun c4 => ?_)⟩
    · have hj : j = 0 := by
        have := V.int.inj (of_decide_eq_true c4)
        omega
      refine rd_dr (m := 9) rfl (fun _ h => h) (x2.pn.same s3) (by omega) (by decide) (by decide) fun r9 n3 L3 H3 u0 u1 x3 => ⟨rfl, ?_⟩
      obtain ⟨many, hm, hat, cq⟩ := rest (decide (V.int r9 = V.int 0)) n3 L3 H3 (fun _ => hj) x3
      exact .inr ⟨_, rfl, q, _, _, _, rfl, rfl, SqL.of cq, hat, fin many n3 L3 H3 hm x3⟩
    · have x3 : Dr (upd H2 q (.lst [.int r4, .int 20])) (upd H2 q (.lst [.int r4, .int 20])) d l ms n2 n2 L2 1 := (Dr.refl (x2.pn.same s3)).wk (by decide)
      obtain ⟨many, hm, hat, cq⟩ := rest false n2 L2 _ (fun z => by cases z) x3
      exact .inr ⟨_, rfl, q, _, _, _, rfl, rfl, SqL.of cq, hat, fin many n2 L2 _ hm x3⟩
theorem ok_wor {f fD fV : Addr} {fd dD dV : FuncData} (F : Fun K "_law_worth" "_law_worth" sWor f fd) (mG : mg "_law_worth" = some (.ref f)) (bG : Binds K fd ["_law_held", "_law_within"] [])
    (GD : FnOk P w K mg pB CX0 1 fD dD ["_law_held", "_law_many"] spDraw) (mD : mg "_law_draw" = some (.ref fD)) (kD : PySem.W.keepIn K (.ref fD) = true) (bD : Binds K dD ["_law_held", "_law_many"] [])
    (GV : FnOk P w K mg pB CX0 3 fV dV ["_law_held"] spWord) (mV : mg "_law_word" = some (.ref fV)) (kV : PySem.W.keepIn K (.ref fV) = true) (bV : Binds K dV ["_law_held"] [])
    (mInt : mg "int" = none) (mT : mg "tuple" = none) (mR : mg "range" = none) : ∀ k, FnOk P w K mg pB CX0 (k + 4) f fd ["_law_held", "_law_within"] (spWor k)
  | 0 => step_wor F 0 ok_bot mG bG GD mD kD bD GV mV kV bV mInt mT mR
  | k + 1 => step_wor F (k + 1) (ok_wor F mG bG GD mD kD bD GV mV kV bV mInt mT mR k) mG bG GD mD kD bD GV mV kV bV mInt mT mR
end
end My

set_option Elab.async false
set_option linter.all false
set_option maxRecDepth 100000
set_option maxHeartbeats 4000000
namespace My
open PySem L2
section
variable {P : Program} {w : World} {K : PySem.W.Frag} {mg : Str → Option Value} {pB : Heap} {σ : L2.St} {H : Hp} {Q : VK} {x y : V}
theorem cons_c {v : V} {tr : TA} {σ : L2.St} {H : Hp} {Q : List V → Hp → Prop} (h : tr σ H fun xs H2 => Q (v :: xs) H2) : tCons (tC v) tr σ H Q := h
theorem rdT0 (h : ∀ p H', Same H H' → H' p = some (.tup []) → Q (.ref p) H') : tTup tNil σ H Q := ⟨by show 0 ≤ sizeLine; decide, fun t ht => h t _ (Same.new (Same.refl _) ht) upd_same⟩
theorem rdT1 (h : ∀ p H', Same H H' → H' p = some (.tup [x]) → Q (.ref p) H') : tTup (tCons (tC x) tNil) σ H Q := ⟨by show 1 ≤ sizeLine; decide, fun t ht => h t _ (Same.new (Same.refl _) ht) upd_same⟩
theorem rdT2 (h : ∀ p H', Same H H' → H' p = some (.tup [x, y]) → Q (.ref p) H') : tTup (tCons (tC x) (tCons (tC y) tNil)) σ H Q := ⟨by show 2 ≤ sizeLine; decide, fun t ht => h t _ (Same.new (Same.refl _) ht) upd_same⟩
theorem rdTT (h : ∀ q p H', Same H H' → H' q = some (.tup [x]) → H' p = some (.tup [.ref q]) → Q (.ref p) H') : tTup (tCons (tTup (tCons (tC x) tNil)) tNil) σ H Q :=
  rdT1 (σ := σ) (Q := fun z H1 => ([z] : List V).length ≤ sizeLine ∧ ∀ p, H1 p = none → Q (.ref p) (upd H1 p (.tup [z]))) fun q H1 s1 e1 => ⟨by show 1 ≤ sizeLine; decide, fun p hp => h q p _ (Same.new s1 hp) ((Same.new (Same.refl _) hp) _ _ e1) upd_same⟩
theorem rdL0 (h : ∀ p H', Same H H' → H' p = some (.lst []) → Q (.ref p) H') : tLst tNil σ H Q := ⟨by show 0 ≤ sizeLine; decide, fun t ht => h t _ (Same.new (Same.refl _) ht) upd_same⟩
theorem rdL2 (h : ∀ p H', Same H H' → H' p = some (.lst [x, y]) → Q (.ref p) H') : tLst (tCons (tC x) (tCons (tC y) tNil)) σ H Q := ⟨by show 2 ≤ sizeLine; decide, fun t ht => h t _ (Same.new (Same.refl _) ht) upd_same⟩
theorem rdLT (h : ∀ q p H', Same H H' → H' p = some (.lst [.ref q]) → Q (.ref p) H') : tLst (tCons (tTup (tCons (tC x) tNil)) tNil) σ H Q :=
  rdT1 (σ := σ) (Q := fun z H1 => ([z] : List V).length ≤ sizeLine ∧ ∀ p, H1 p = none → Q (.ref p) (upd H1 p (.lst [z]))) fun q H1 s1 e1 => ⟨by show 1 ≤ sizeLine; decide, fun p hp => h q p _ (Same.new s1 hp) upd_same⟩
theorem rdD (h : ∀ p H', Same H H' → H' p = some (.dK []) → Q (.ref p) H') : tDNewK σ H Q := fun t ht => h t _ (Same.new (Same.refl _) ht) upd_same
def oddV (p0 p1 p2 p3 p4 p5 p6 p7 : Addr) : List V :=
  [.non, .bl true, .bl false, .int (-1), .int 6, .int 1001, .int 1000000001, .int (-1000000001), .int (10 ^ (30 : Int).toNat), .str "", .str "A", .str "abcdefghi", .str "a b", .str "-",
   .str "say ", .ref p0, .ref p1, .ref p2, .ref p3, .ref p4, .ref p5, .ref p6, .ref p7, .str "echo", .int 0, .int 5, .int 1000, .str "a"]
def oddX : List PyData :=
  [.none, .bool true, .bool false, .int (-1), .int 6, .int 1001, .int 1000000001, .int (-1000000001), .int (10 ^ (30 : Int).toNat), .str "", .str "A", .str "abcdefghi", .str "a b", .str "-",
   .str "say ", .tuple [], .tuple [.str "say"], .tuple [.str "echo", .str "a"], .list [], .list [], .dict [], .tuple [.tuple [.str "echo"]], .list [], .str "echo", .int 0, .int 5, .int 1000, .str "a"]
theorem rep_b {H : Hp} {k : Nat} (b : Bool) : Rep H k (.bl b) (.bool b) := by cases k <;> rfl
theorem rep_l {H : Hp} {k : Nat} {a : Addr} {xs : List V} (h : H a = some (.lst xs)) : Rep H k (.ref a) (.list []) := by cases k <;> exact ⟨a, xs, rfl, h⟩
theorem rep_d {H : Hp} {k : Nat} {a : Addr} (h : H a = some (.dK [])) : Rep H k (.ref a) (.dict []) := by cases k <;> exact ⟨a, rfl, h⟩
theorem odd_pair {H : Hp} {p0 p1 p2 p3 p4 p5 p6 p7 q6 : Addr} {a3 a4 a7 : List V} (h0 : H p0 = some (.tup [])) (h1 : H p1 = some (.tup [.str "say"])) (h2 : H p2 = some (.tup [.str "echo", .str "a"])) (h3 : H p3 = some (.lst a3)) (h4 : H p4 = some (.lst a4)) (h5 : H p5 = some (.dK []))
    (g6 : H q6 = some (.tup [.str "echo"])) (h6 : H p6 = some (.tup [.ref q6])) (h7 : H p7 = some (.lst a7)) : Paired (fun v x => Rep H 2 v x ∧ szD x ≤ 20) (oddV p0 p1 p2 p3 p4 p5 p6 p7) oddX := by
  have S : ∀ x : Str, x.length ≤ 10 → Rep H 2 (.str x) (.str x) ∧ szD (.str x) ≤ 20 := fun x hx => ⟨rep_s x, by rw [szD]; omega⟩
  have I : ∀ i : Int, Rep H 2 (.int i) (.int i) ∧ szD (.int i) ≤ 20 := fun i => ⟨rep_i i, show 1 ≤ 20 by decide⟩
  refine .cons ⟨rep_n, by decide +kernel⟩ (.cons ⟨rep_b _, by decide +kernel⟩ (.cons ⟨rep_b _, by decide +kernel⟩ (.cons (I _) (.cons (I _) (.cons (I _) (.cons (I _) (.cons (I _) (.cons (I _) (.cons (S _ (by decide +kernel)) (.cons (S _ (by decide +kernel)) (.cons (S _ (by decide +kernel)) (.cons (S _ (by decide +kernel)) (.cons (S _ (by decide +kernel)) (.cons (S _ (by decide +kernel)) ?_))))))))))))))
  refine .cons ⟨rep_t h0 .nil, by decide +kernel⟩ (.cons ⟨rep_t h1 (.cons (rep_s _) .nil), by decide +kernel⟩ (.cons ⟨rep_t h2 (.cons (rep_s _) (.cons (rep_s _) .nil)), by decide +kernel⟩ (.cons ⟨rep_l h3, by decide +kernel⟩ (.cons ⟨rep_l h4, by decide +kernel⟩ (.cons ⟨rep_d h5, by decide +kernel⟩
    (.cons ⟨rep_t h6 (.cons (rep_t g6 (.cons (rep_s _) .nil)) .nil), by decide +kernel⟩ (.cons ⟨rep_l h7, by decide +kernel⟩ (.cons (S _ (by decide +kernel)) (.cons (I _) (.cons (I _) (.cons (I _) (.cons (S _ (by decide +kernel)) .nil))))))))))))
def spOdd : Sp := fun vs H Q _ => ∃ (d l : Addr) (ms : List Int) (n L : Int), vs = [.ref d] ∧ Pen H d l ms n L ∧ n < 2 ^ 39 ∧ ∀ (v : V) (x : PyData) (n' L' : Int) (H' : Hp), Rep H' 2 v x → szD x ≤ 20 → Dr H H' d l ms n n' L' 1 → Q v H'
end
end My

set_option Elab.async false
set_option linter.all false
set_option maxRecDepth 100000
set_option maxHeartbeats 4000000
namespace My
open PySem L2
section
variable {P : Program} {w : World} {K : PySem.W.Frag} {mg : Str → Option Value} {pB : Heap}
theorem pTake {α β : Type} {F : α → β → Prop} : ∀ {xs : List α} {ys : List β} (n : Nat), Paired F xs ys → Paired F (xs.take n) (ys.take n)
  | _, _, 0, _ => .nil
  | _, _, _ + 1, .nil => .nil
  | _, _, n + 1, .cons r t => .cons r (pTake n t)
theorem pDrop {α β : Type} {F : α → β → Prop} : ∀ {xs : List α} {ys : List β} (n : Nat), Paired F xs ys → Paired F (xs.drop n) (ys.drop n)
  | _, _, 0, r => r
  | _, _, _ + 1, .nil => .nil
  | _, _, n + 1, .cons _ t => pDrop n t
theorem pApp {α β : Type} {F : α → β → Prop} : ∀ {xs us : List α} {ys ws : List β}, Paired F xs ys → Paired F us ws → Paired F (xs ++ us) (ys ++ ws)
  | _, _, _, _, .nil, s => s
  | _, _, _, _, .cons r t, s => .cons r (pApp t s)
theorem pRev {α β : Type} {F : α → β → Prop} : ∀ {xs : List α} {ys : List β}, Paired F xs ys → Paired F xs.reverse ys.reverse
  | _, _, .nil => .nil
  | _, _, .cons r t => by
    rw [List.reverse_cons, List.reverse_cons]
    exact pApp (pRev t) (.cons r .nil)
theorem rd_cat {H : Hp} {Q : VK} {a b : Addr} {xs ys : List V} (ha : H a = some (.tup xs)) (hb : H b = some (.tup ys)) (hz : xs.length + ys.length ≤ sizeLine) (h : ∀ p H', Same H H' → H' p = some (.tup (xs ++ ys)) → Q (.ref p) H') : rCatA K (.ref a) (.ref b) H Q := by
  refine ⟨a, b, xs, ys, rfl, rfl, SqT.of ha, SqT.of hb, hz, fun e => ?_, fun _ e => ?_, fun _ _ p hp => h p _ (Same.new (Same.refl _) hp) upd_same⟩
  · exact h b H (Same.refl _) (by rw [hb, e]; rfl)
  · exact h a H (Same.refl _) (by rw [ha, e, List.append_nil])
theorem rd_slT {H : Hp} {Q : VK} {a : Addr} {xs : List V} {lo hi : Option Int} (ha : H a = some (.tup xs)) (h : ∀ p H', Same H H' → H' p = some (.tup (cutV xs lo hi)) → Q (.ref p) H') : rSlA K (.ref a) lo hi H Q := by
  refine ⟨a, xs, rfl, SqT.of ha, fun e => h a H (Same.refl _) ?_, fun _ p hp => h p _ (Same.new (Same.refl _) hp) upd_same⟩
  rw [ha]
  unfold cutV
  rw [e.1, e.2, List.drop_zero, Nat.sub_zero, List.take_length]
theorem cut_to (xs : List V) {k : Int} (h0 : 0 ≤ k) (h1 : k ≤ xs.length) : cutV xs none (some k) = xs.take k.toNat := by
  unfold cutV
  rw [HT.sIx_none, List.drop_zero, Nat.sub_zero]
  have e : HT.sIx xs.length xs.length (some k) = k.toNat := by
    show (if k < 0 then _ else min k.toNat xs.length) = _
    rw [if_neg (by omega)]; omega
  rw [e]
theorem cut_from (xs : List V) {k : Int} (h0 : 0 ≤ k) (h1 : k ≤ xs.length) : cutV xs (some k) none = xs.drop k.toNat := by
  unfold cutV
  have e : HT.sIx xs.length 0 (some k) = k.toNat := by
    show (if k < 0 then _ else min k.toNat xs.length) = _
    rw [if_neg (by omega)]; omega
  rw [HT.sIx_none, e, List.take_of_length_le]
  rw [List.length_drop]; omega
theorem szL_at {ds : List PyData} {i : Nat} {e : PyData} (h : ds[i]? = some e) : szL ds = szL (ds.take i) + szD e + szL (ds.drop (i + 1)) := by
  have hl : i < ds.length := (List.getElem?_eq_some_iff.mp h).1
  have e1 : ds.drop i = e :: ds.drop (i + 1) := by
    rw [List.drop_eq_getElem_cons hl]
    rw [List.getElem?_eq_getElem hl] at h
    rw [Option.some.inj h]
  rw [← szL_td ds i, e1, szL]; omega
theorem par_of {ta : TA} {i j : Nat} {b : TS} {D : Ends} {σ : L2.St} {H : Hp} (h : ta σ H fun vs H1 => ∃ v w, vs = [v, w] ∧ b D ((σ.set i (some v)).set j (some w)) H1) : tSeq (tPar i j ta) b D σ H := h
theorem np_of {σ : L2.St} {H : Hp} {Q : Option Int → Hp → Prop} (h : Q none H) : tNoPart σ H Q := h
theorem nxt_r {b : TS} {D : Ends} {σ : L2.St} {H : Hp} (h : b D σ H) : tNext { D with nx := b D } σ H := h
def bB (m : Nat) : Int := 10 * ((m : Int) + 1)
def spBent (m : Nat) : Sp := fun vs H Q _ => ∃ (d l : Addr) (ms : List Int) (n L : Int) (v : V) (x : PyData), vs = [.ref d, v] ∧ Pen H d l ms n L ∧ n + bB m < 2 ^ 39 ∧ Rep H m v x ∧ szD x ≤ 1000000 ∧
  ∀ (v' : V) (x' : PyData) (n' L' : Int) (H' : Hp), Rep H' (m + 2) v' x' → szD x' ≤ 2 * szD x + 20 → Dr H H' d l ms n n' L' (bB m) → Q v' H'
def spPrevB : Nat → Sp
  | 0 => spBot
  | m + 1 => spBent m
end
end My

set_option Elab.async false
set_option linter.all false
set_option maxRecDepth 100000
set_option maxHeartbeats 4000000
namespace My
open PySem L2
/-! ### what a script is -/
/-- the kinds of a deed's parts -/
inductive Kd
  | w | k | r | e | i | v | n | S | s
  deriving DecidableEq
def kname : Kd → Str
  | .w => "word" | .k => "count" | .r => "rank" | .e => "gap" | .i => "due" | .v => "worth" | .n => "names" | .S => "script" | .s => "perhaps"
def ksign : Kd → Nat
  | .w => 119 | .k => 107 | .r => 114 | .e => 101 | .i => 105 | .v => 118 | .n => 110 | .S => 83 | .s => 115
def formL : List (Str × List Kd) :=
  [("say", [.w]), ("echo", []), ("spend", [.k]), ("post", [.r, .w, .S]), ("micro", [.S]), ("after", [.k, .r, .w, .S]), ("every", [.e, .r, .w, .S]), ("idle", [.i, .w, .S]), ("stop", [.w]), ("rerank", [.w, .r]),
   ("make", [.w]), ("keep", [.w, .v]), ("pass", [.w]), ("break", [.w, .w]), ("follow", [.w, .w]), ("then", [.w, .w, .s, .s]), ("all", [.w, .n]), ("any", [.w, .n]), ("first", [.w, .n]), ("each", [.w, .n]), ("give", [.v]),
   ("fail", [.w]), ("guard", [.S, .s, .S]), ("if", [.w, .S, .S]), ("wait", [.w]), ("run", [.w]), ("story", [.w, .S]), ("cancel", [.w]), ("yield", [.r]), ("call", [.w])]
def formOf (x : Str) : Option (List Kd) := (formL.find? fun p => decide (p.1 = x)).map (·.2)
def nmD : PyData → Bool
  | .tuple ds => decide (ds.length ≤ 8) && ds.all wdD
  | _ => false
def partOk : Kd → PyData → Bool
  | .w, d => wdD d
  | .k, d => btw 0 1000 d
  | .r, d => btw 0 5 d
  | .e, d => btw 1 1000 d
  | .i, d => isNon d || btw 0 1000 d
  | .v, d => isW 4 d
  | .n, d => nmD d
  | _, _ => false
def isScr : Kd → Bool
  | .S => true
  | .s => true
  | _ => false
/-- how many deeds a part has, by what a script has in it -/
def partB (f : PyData → Option Nat) (k : Kd) (d : PyData) : Option Nat :=
  if isScr k = true then (if k = .s ∧ isNon d = true then some 0 else f d) else if partOk k d = true then some 0 else none
def sumO : List (Option Nat) → Option Nat
  | [] => some 0
  | none :: _ => none
  | some a :: l => (sumO l).map (a + ·)
def deedB (f : PyData → Option Nat) : PyData → Option Nat
  | .tuple (.str x :: ps) => match formOf x with
    | some ks => if ps.length = ks.length then sumO (List.zipWith (partB f) ks ps) else none
    | none => none
  | _ => none
def cnt : Nat → PyData → Option Nat
  | 0, _ => none
  | n + 1, .tuple ds => (sumO (ds.map (deedB (cnt n)))).map (ds.length + ·)
  | _ + 1, _ => none
section
variable {P : Program} {w : World} {K : PySem.W.Frag} {mg : Str → Option Value} {pB : Heap}
def spTest (t : PyData → Bool) : Sp := fun vs H Q _ => ∃ (m : Nat) (v : V) (d : PyData), vs = [v] ∧ Rep H m v d ∧ szD d ≤ 1000000 ∧ ∀ H', Same H H' → Q (.bl (t d)) H'
end
end My

set_option Elab.async false
set_option linter.all false
set_option maxRecDepth 100000
set_option maxHeartbeats 4000000
namespace My
open PySem L2
section
variable {P : Program} {w : World} {K : PySem.W.Frag} {mg : Str → Option Value} {pB : Heap}
/-- the module's table of deeds -/
structure Deeds (K : PySem.W.Frag) (w : World) (mg : Str → Option Value) (dA : Addr) (es : Array DictEntry) (n : Nat) : Prop where
  m : mg "DEEDS" = some (.ref dA)
  kd : KDict K w dA es n
  at_ : ∀ x ks, formOf x = some ks → ∃ t, PySem.W.nsIn K dA x = some (some (.ref t)) ∧ ∀ H, SqT K H t (ks.map fun k => V.str (kname k))
  no : ∀ x, formOf x = none → PySem.W.nsIn K dA x = some none
theorem Deeds.get {dA : Addr} {es : Array DictEntry} {n : Nat} (D : Deeds K w mg dA es n) {x : Str} {ks : List Kd} (h : formOf x = some ks) : ∃ t, PySem.W.nsIn K dA x = some (some (.ref t)) ∧ KDct K w dA x (.ref t) ∧ ∀ H, SqT K H t (ks.map fun k => V.str (kname k)) := by
  obtain ⟨t, e, hs⟩ := D.at_ x ks h
  exact ⟨t, e, ⟨es, n, .ref t, D.kd.at_, D.kd.lit, e, rfl⟩, hs⟩
def hasF : PyData → Bool
  | .tuple (.str x :: ps) => match formOf x with
    | some ks => decide (ps.length = ks.length)
    | none => false
  | _ => false
theorem rd_isiX {H : Hp} {Q : VK} {m : Nat} {T : String} {v : V} {d : PyData} (hT : T = "str" ∨ T = "int" ∨ T = "bool" ∨ T = "tuple") (r : Rep H m v d) (h : Q (.bl (isTy T d)) H) : rIsi K [v, .ty T] H Q := ⟨v, .ty T, .type (tyN d), .type T, _, rfl, .ty T, r.ty, kit_ty (kit_T hT d), h⟩
end
end My

set_option Elab.async false
set_option linter.all false
set_option maxRecDepth 100000
set_option maxHeartbeats 4000000
namespace My
open PySem L2
section
variable {P : Program} {w : World} {K : PySem.W.Frag} {mg : Str → Option Value} {pB : Heap}
/-- the pairs of kinds and parts, as they are told -/
def PairsAt (H : Hp) (q : Addr) (m : Nat) (ks : List Kd) (ps : List PyData) : Prop := ∃ (ts : List Addr) (vs : List V), H q = some (.lst (ts.map V.ref)) ∧ ts.length = ks.length ∧ Paired (Rep H m) vs ps ∧
  ∀ (j : Nat) (t : Addr) (k : Kd) (v : V), ts[j]? = some t → ks[j]? = some k → vs[j]? = some v → H t = some (.tup [.str (kname k), v])
def spParts : Sp := fun vs H Q _ => ∃ (m : Nat) (v : V) (x : Str) (ps : List PyData) (ks : List Kd), vs = [v] ∧ Rep H (m + 1) v (.tuple (.str x :: ps)) ∧ formOf x = some ks ∧ ps.length = ks.length ∧
  ∀ (q : Addr) (H' : Hp), Same H H' → PairsAt H' q m ks ps → Q (.ref q) H'
abbrev sParts : Stmt := top 3
theorem scParts : FnScope ["deed"] ["deed"] (defScope sParts) := ⟨rfl, rfl, rfl, by decide +kernel, rfl, by decide +kernel, by decide +kernel⟩
theorem ok_parts {f dA : Addr} {fd : FuncData} {es : Array DictEntry} {n : Nat} (F : Fun K "parts_of" "parts_of" sParts f fd) (D : Deeds K w mg dA es n) (mL : mg "list" = none) (mZ : mg "zip" = none) : FnOk P w K mg pB CX0 1 f fd ["deed"] spParts := by
  refine F.ok scParts (fun vs H Q E h => ?_) (fun cdv A outer s H vs Q E hr h => ?_)
  · obtain ⟨m, v, x, ps, ks, rfl, _⟩ := h
    rfl
  · obtain ⟨m, v, x, ps, ks, rfl, hR, hf, hl, k⟩ := h
    have pD : ∀ {X : Cx} {p : Pos}, Gl X "DEEDS" → X.mg "DEEDS" = some (.ref dA) → PE X (.Name "DEEDS" p) (tC (.ref dA)) := fun hg hm => pe_glob hg hm (show RelV (.ref dA) _ from rfl)
    refine ⟨_, pss_one (ps_ret (pe_listZip rfl (by rfl) mL (by rfl) mZ (pa_cons (pe_ix ix_kdict (pD (by rfl) D.m) (pe_ix ix_tup (pv 0) pe_int (fun _ _ => rfl)) (fun _ _ => rfl)) (pa_cons (pe_slice sl_tupA (pv 0) (po_some pe_int) po_none) pa_nil)))), ?_⟩
    obtain ⟨a, xs, rfl, ha, hp⟩ := hR
    cases hp with
    | @cons y e ys ds hre hp =>
      have hlen := Paired.length hp
      cases rep_str hre
      obtain ⟨t, e1, e2, e3⟩ := D.get hf
      refine ⟨_, rfl, a, _, 0, _, rfl, rfl, SqT.of ha, atI_nat (xs := V.str x :: ys) (j := 0) (v := .str x) rfl, dA, x, .ref t, rfl, rfl, e2, _, rfl, _, rfl, np_of (rd_slT ha fun p2 H2 s2 c2 => ?_)⟩
      rw [cut_from _ (by decide) (by rw [List.length_cons]; omega)] at c2
      refine ⟨t, p2, _, _, rfl, e3 H2, SqT.of c2, fun q ts H3 s3 hq hlt hT => ?_⟩
      have hd : (V.str x :: ys).drop (1 : Int).toNat = ys := rfl
      rw [hd, List.length_map] at hlt
      refine k q H3 (s2.trans s3) ⟨ts, ys, hq, by omega, Paired.mapP hp fun _ _ z => (z.same s2).same s3, fun j t' kd v e4 e5 e6 => hT j t' _ v e4 (by rw [List.getElem?_map, e5]; rfl) (by rw [hd]; exact e6)⟩
/-- the module's table of checks -/
structure Checks (P : Program) (w : World) (K : PySem.W.Frag) (mg : Str → Option Value) (pB : Heap) (cA : Addr) : Prop where
  m : mg "CHECKS" = some (.ref cA)
  at_ : ∀ k, isScr k = false → ∃ f, KDct K w cA (kname k) (.ref f) ∧ C8.CalAt P w K mg pB 7 f (spTest (partOk k))
def spFits : Sp := fun vs H Q _ => ∃ (m : Nat) (v : V) (d : PyData) (k : Kd), vs = [.str (kname k), v] ∧ isScr k = false ∧ Rep H m v d ∧ szD d ≤ 1000000 ∧ ∀ H', Same H H' → Q (.bl (partOk k d)) H'
end
end My

set_option Elab.async false
set_option linter.all false
set_option maxRecDepth 100000
set_option maxHeartbeats 4000000
namespace My
open PySem L2
section
variable {P : Program} {w : World} {K : PySem.W.Frag} {mg : Str → Option Value} {pB : Heap}
def resV (o : Option Nat) (room : Int) : V := match o with
  | some c => if (c : Int) ≤ room then .int (room - c) else .non
  | none => .non
def spRoom (n : Nat) : Sp := fun vs H Q _ => ∃ (m : Nat) (v : V) (d : PyData) (room : Int), vs = [v, .int (n : Int), .int room] ∧ Rep H m v d ∧ szD d ≤ 1000000 ∧ 0 ≤ room ∧ ∀ H', Same H H' → Q (resV (cnt n d) room) H'
def spRoomD (n : Nat) : Sp := fun vs H Q _ => ∃ (m : Nat) (v : V) (d : PyData) (room : Int), vs = [v, .int (n : Int), .int room] ∧ Rep H m v d ∧ szD d ≤ 1000000 ∧ 0 ≤ room ∧ ∀ H', Same H H' → Q (resV (deedB (cnt n) d) room) H'
theorem hasF_of {d : PyData} (h : hasF d = true) : ∃ x ps ks, d = .tuple (.str x :: ps) ∧ formOf x = some ks ∧ ps.length = ks.length := by
  unfold hasF at h
  split at h
  · rename_i x ps
    split at h
    · rename_i ks e
      exact ⟨x, ps, ks, rfl, e, of_decide_eq_true h⟩
    · cases h
  · cases h
theorem hasF_no {f : PyData → Option Nat} {d : PyData} (h : hasF d = false) : deedB f d = none := by
  cases d with
  | tuple ds =>
    cases ds with
    | nil => rfl
    | cons e ps =>
      cases e with
      | str x =>
        have h : (match formOf x with | some ks => decide (ps.length = ks.length) | none => false) = false := h
        show (match formOf x with | some ks => if ps.length = ks.length then sumO (List.zipWith (partB f) ks ps) else none | none => none) = none
        cases hf : formOf x with
        | none => rfl
        | some ks =>
          rw [hf] at h
          exact if_neg (of_decide_eq_false h)
      | _ => rfl
  | _ => rfl
theorem sumO_app : ∀ (as bs : List (Option Nat)), sumO (as ++ bs) = match sumO as with | some a => (sumO bs).map (a + ·) | none => none
  | [], bs => by
    show sumO bs = (sumO bs).map (0 + ·)
    cases sumO bs <;> simp
  | none :: as, bs => rfl
  | some a :: as, bs => by
    show (sumO (as ++ bs)).map (a + ·) = match (sumO as).map (a + ·) with | some a => (sumO bs).map (a + ·) | none => none
    rw [sumO_app as bs]
    cases sumO as with
    | none => rfl
    | some c =>
      show ((sumO bs).map (c + ·)).map (a + ·) = (sumO bs).map (a + c + ·)
      cases sumO bs with
      | none => rfl
      | some e => show some (a + (c + e)) = some (a + c + e); rw [Nat.add_assoc]
/-- what stops in the middle stops the whole -/
theorem sumO_stop {l : List (Option Nat)} {j c : Nat} {o : Option Nat} {room : Int} (hj : l[j]? = some o) (hc : sumO (l.take j) = some c) (ho : ∀ e, o = some e → room < (c + e : Int)) : resV (sumO l) room = .non := by
  have hl : j < l.length := (List.getElem?_eq_some_iff.mp hj).1
  have e1 : l = l.take j ++ (o :: l.drop (j + 1)) := by
    rw [List.getElem?_eq_getElem hl] at hj
    rw [← Option.some.inj hj, ← List.drop_eq_getElem_cons hl, List.take_append_drop]
  rw [e1, sumO_app, hc]
  cases o with
  | none => rfl
  | some e =>
    show resV (((sumO (l.drop (j + 1))).map (e + ·)).map (c + ·)) room = .non
    cases sumO (l.drop (j + 1)) with
    | none => rfl
    | some g =>
      have := ho e rfl
      show (if ((c + (e + g) : Nat) : Int) ≤ room then _ else _) = _
      rw [if_neg (by omega)]
theorem sumO_snoc {l : List (Option Nat)} {j c e : Nat} (hj : l[j]? = some (some e)) (hc : sumO (l.take j) = some c) : sumO (l.take (j + 1)) = some (c + e) := by
  rw [take_snoc hj, sumO_app, hc]
  rfl
end
end My

set_option Elab.async false
set_option linter.all false
set_option maxRecDepth 100000
set_option maxHeartbeats 4000000
namespace My
open PySem L2
section
variable {P : Program} {w : World} {K : PySem.W.Frag} {mg : Str → Option Value} {pB : Heap}
def spPrevD : Nat → Sp
  | 0 => spBot
  | n + 1 => spRoomD n
theorem aug_n {te : TE} {ti : TIp} {i : Nat} {b : TS} {D : Ends} {σ : L2.St} {H : Hp} (h : ∃ x, σ[i]? = some (some x) ∧ te σ H fun y H1 => ti x y H1 fun z H2 => b D (σ.set i (some z)) H2) : tSeq (tAug i te ti) b D σ H := h
theorem resV_add {l : Nat} {o : Option Nat} {room : Int} (h : (l : Int) ≤ room) : resV (o.map (l + ·)) room = resV o (room - l) := by
  cases o with
  | none => rfl
  | some c =>
    show (if ((l + c : Nat) : Int) ≤ room then V.int (room - ((l + c : Nat) : Int)) else .non) = (if (c : Int) ≤ room - l then V.int (room - l - c) else .non)
    by_cases hc : (c : Int) ≤ room - l
    · rw [if_pos hc, if_pos (by omega)]
      congr 1
      omega
    · rw [if_neg hc, if_neg (by omega)]
theorem resV_big {l : Nat} {o : Option Nat} {room : Int} (h : ¬ (l : Int) ≤ room) : resV (o.map (l + ·)) room = .non := by
  cases o with
  | none => rfl
  | some c =>
    show (if ((l + c : Nat) : Int) ≤ room then V.int (room - ((l + c : Nat) : Int)) else .non) = .non
    rw [if_neg (by omega)]
end
end My

set_option Elab.async false
set_option linter.all false
set_option maxRecDepth 100000
set_option maxHeartbeats 4000000
namespace My
open PySem L2
section
variable {P : Program} {w : World} {K : PySem.W.Frag} {mg : Str → Option Value} {pB : Heap}
def isS (d : PyData) : Bool := match cnt 5 d with
  | some c => decide (c ≤ 200)
  | none => false
theorem isS_res (d : PyData) : (!decide (resV (cnt 5 d) 200 = .non)) = isS d := by
  unfold isS
  cases cnt 5 d with
  | none => rfl
  | some c =>
    show (!decide ((if ((c : Nat) : Int) ≤ 200 then V.int (200 - (c : Int)) else .non) = .non)) = decide (c ≤ 200)
    by_cases h : c ≤ 200
    · rw [if_pos (by omega), decide_eq_true h]
      rfl
    · rw [if_neg (by omega), decide_eq_false h]
      rfl
end
end My

set_option Elab.async false
set_option linter.all false
set_option maxRecDepth 100000
set_option maxHeartbeats 4000000
namespace My
open PySem L2
section
variable {P : Program} {w : World} {K : PySem.W.Frag} {mg : Str → Option Value} {pB : Heap}
/-! ### the law's own table of forms -/
def ksignS (ks : List Kd) : Str := ⟨(ks.map ksign).toArray⟩
def formK : List (Key × V) := formL.map fun p => (Sum.inr p.1, V.str (ksignS p.2))
def fk (x : Str) (y : Str) : Key × V := (Sum.inr x, V.str y)
def fk1 : List (Key × V) := [fk "say" "w", fk "echo" "", fk "spend" "k", fk "post" "rwS", fk "micro" "S", fk "after" "krwS", fk "every" "erwS"]
def fk2 : List (Key × V) := [fk "idle" "iwS", fk "stop" "w", fk "rerank" "wr", fk "make" "w", fk "keep" "wv", fk "pass" "w", fk "break" "ww"]
def fk3 : List (Key × V) := [fk "follow" "ww", fk "then" "wwss", fk "all" "wn", fk "any" "wn", fk "first" "wn", fk "each" "wn", fk "give" "v"]
def fk4 : List (Key × V) := [fk "fail" "w", fk "guard" "SsS", fk "if" "wSS", fk "wait" "w", fk "run" "w", fk "story" "wS", fk "cancel" "w"]
def fk5 : List (Key × V) := [fk "yield" "r", fk "call" "w"]
def spForms : Sp := fun vs H Q _ => vs = [] ∧ ∀ (p : Addr) (H' : Hp), Same H H' → H' p = some (.dK formK) → Q (.ref p) H'
abbrev sForms : Stmt := top 15
theorem scForms : FnScope ["_law_some"] [] (defScope sForms) := ⟨rfl, rfl, rfl, by decide +kernel, rfl, by decide +kernel, by decide +kernel⟩
/-! ### the law's look at a part -/
def spIsPart : Sp := fun vs H Q _ => ∃ (m : Nat) (v : V) (d : PyData) (k : Kd), vs = [.str ⟨#[ksign k]⟩, v] ∧ isScr k = false ∧ Rep H m v d ∧ szD d ≤ 1000000 ∧ ∀ H', Same H H' → Q (.bl (partOk k d)) H'
end
end My

set_option Elab.async false
set_option linter.all false
set_option maxRecDepth 100000
set_option maxHeartbeats 4000000
namespace My
open PySem L2
section
variable {P : Program} {w : World} {K : PySem.W.Frag} {mg : Str → Option Value} {pB : Heap}
theorem drop_of {te : TE} {b : TS} {D : Ends} {σ : L2.St} {H : Hp} (h : te σ H fun _ H1 => b D σ H1) : tSeq (tDrop te) b D σ H := h
theorem fm1 : mergeK [] fk1 = fk1 := by decide +kernel
theorem fm2 : mergeK [] fk2 = fk2 := by decide +kernel
theorem fm3 : mergeK [] fk3 = fk3 := by decide +kernel
theorem fm4 : mergeK [] fk4 = fk4 := by decide +kernel
theorem fm5 : mergeK [] fk5 = fk5 := by decide +kernel
theorem fmA : mergeK (mergeK (mergeK (mergeK fk1 fk2) fk3) fk4) fk5 = formK := by decide +kernel
/-- a display of texts alone, read -/
theorem ok_forms {f : Addr} {fd : FuncData} (F : Fun K "_law_forms" "_law_forms" sForms f fd) : FnOk P w K mg pB CX0 1 f fd [] spForms := by
  refine F.ok scForms (fun vs H Q E h => ?_) (fun cdv A outer s H vs Q E hr h => ?_)
  · obtain ⟨rfl, _⟩ := h
    rfl
  · obtain ⟨rfl, k⟩ := h
    have nd := scForms.nd
    refine ⟨_, pss_cons (ps_set (i := 0) nd rfl (Or.inl rfl) (pe_disp (pps_cons pe_str pe_str (pps_cons pe_str pe_str (pps_cons pe_str pe_str (pps_cons pe_str pe_str (pps_cons pe_str pe_str (pps_cons pe_str pe_str (pps_cons pe_str pe_str pps_nil))))))) (by rfl) (by rfl) (fun z => by cases z) (by decide)))
      (pss_cons (ps_expr (pe_bm PySem.F.plainAttrs_dict PySem.F.slot_dict_update PySem.F.type_dict_update mt_update (pv 0) (pa_cons (pe_disp (pps_cons pe_str pe_str (pps_cons pe_str pe_str (pps_cons pe_str pe_str (pps_cons pe_str pe_str (pps_cons pe_str pe_str (pps_cons pe_str pe_str (pps_cons pe_str pe_str pps_nil))))))) (by rfl) (by rfl) (fun z => by cases z) (by decide)) pa_nil)))
      (pss_cons (ps_expr (pe_bm PySem.F.plainAttrs_dict PySem.F.slot_dict_update PySem.F.type_dict_update mt_update (pv 0) (pa_cons (pe_disp (pps_cons pe_str pe_str (pps_cons pe_str pe_str (pps_cons pe_str pe_str (pps_cons pe_str pe_str (pps_cons pe_str pe_str (pps_cons pe_str pe_str (pps_cons pe_str pe_str pps_nil))))))) (by rfl) (by rfl) (fun z => by cases z) (by decide)) pa_nil)))
      (pss_cons (ps_expr (pe_bm PySem.F.plainAttrs_dict PySem.F.slot_dict_update PySem.F.type_dict_update mt_update (pv 0) (pa_cons (pe_disp (pps_cons pe_str pe_str (pps_cons pe_str pe_str (pps_cons pe_str pe_str (pps_cons pe_str pe_str (pps_cons pe_str pe_str (pps_cons pe_str pe_str (pps_cons pe_str pe_str pps_nil))))))) (by rfl) (by rfl) (fun z => by cases z) (by decide)) pa_nil)))
      (pss_cons (ps_expr (pe_bm PySem.F.plainAttrs_dict PySem.F.slot_dict_update PySem.F.type_dict_update mt_update (pv 0) (pa_cons (pe_disp (pps_cons pe_str pe_str (pps_cons pe_str pe_str pps_nil)) (by rfl) (by rfl) (fun z => by cases z) (by decide)) pa_nil)))
      (pss_one (ps_ret (pv 0))))))), ?_⟩
    refine asg_n (fun p hp => ⟨upd_same, fk1, rfl, by decide, ?_⟩)
    rw [fm1]
    have c1 : (upd (upd H p (.dK [])) p (.dK fk1)) p = some (.dK fk1) := upd_same
    have n1 : ∀ b o, H b = some o → (upd (upd H p (.dK [])) p (.dK fk1)) b = some o := fun b o e => by rw [upd_ne (ne_of_none e hp), upd_ne (ne_of_none e hp)]; exact e
    generalize upd (upd H p (.dK [])) p (.dK fk1) = J1 at c1 n1 ⊢
    refine drop_of ⟨_, rfl, .inr (.inr (.inl ⟨rfl, .inl ⟨_, c1⟩⟩)), fun p2 hp2 => ⟨upd_same, fk2, rfl, by decide, p, p2, fk1, mergeK [] fk2, rfl, rfl, ?_, upd_same, ne_of_none c1 hp2, by decide +kernel, ?_⟩⟩
    · rw [upd_ne (ne_of_none c1 hp2), upd_ne (ne_of_none c1 hp2)]; exact c1
    rw [fm2]
    have c2 : (upd (upd (upd J1 p2 (.dK [])) p2 (.dK fk2)) p (.dK (mergeK fk1 fk2))) p = some (.dK (mergeK fk1 fk2)) := upd_same
    have n2 : ∀ b o, H b = some o → (upd (upd (upd J1 p2 (.dK [])) p2 (.dK fk2)) p (.dK (mergeK fk1 fk2))) b = some o := fun b o e => by rw [upd_ne (ne_of_none e hp), upd_ne (ne_of_none (n1 b o e) hp2), upd_ne (ne_of_none (n1 b o e) hp2)]; exact n1 b o e
    generalize upd (upd (upd J1 p2 (.dK [])) p2 (.dK fk2)) p (.dK (mergeK fk1 fk2)) = J2 at c2 n2 ⊢
    refine drop_of ⟨_, rfl, .inr (.inr (.inl ⟨rfl, .inl ⟨_, c2⟩⟩)), fun p3 hp3 => ⟨upd_same, fk3, rfl, by decide, p, p3, (mergeK fk1 fk2), mergeK [] fk3, rfl, rfl, ?_, upd_same, ne_of_none c2 hp3, by decide +kernel, ?_⟩⟩
    · rw [upd_ne (ne_of_none c2 hp3), upd_ne (ne_of_none c2 hp3)]; exact c2
    rw [fm3]
    have c3 : (upd (upd (upd J2 p3 (.dK [])) p3 (.dK fk3)) p (.dK (mergeK (mergeK fk1 fk2) fk3))) p = some (.dK (mergeK (mergeK fk1 fk2) fk3)) := upd_same
    have n3 : ∀ b o, H b = some o → (upd (upd (upd J2 p3 (.dK [])) p3 (.dK fk3)) p (.dK (mergeK (mergeK fk1 fk2) fk3))) b = some o := fun b o e => by rw [upd_ne (ne_of_none e hp), upd_ne (ne_of_none (n2 b o e) hp3), upd_ne (ne_of_none (n2 b o e) hp3)]; exact n2 b o e
    generalize upd (upd (upd J2 p3 (.dK [])) p3 (.dK fk3)) p (.dK (mergeK (mergeK fk1 fk2) fk3)) = J3 at c3 n3 ⊢
    refine drop_of ⟨_, rfl, .inr (.inr (.inl ⟨rfl, .inl ⟨_, c3⟩⟩)), fun p4 hp4 => ⟨upd_same, fk4, rfl, by decide, p, p4, (mergeK (mergeK fk1 fk2) fk3), mergeK [] fk4, rfl, rfl, ?_, upd_same, ne_of_none c3 hp4, by decide +kernel, ?_⟩⟩
    · rw [upd_ne (ne_of_none c3 hp4), upd_ne (ne_of_none c3 hp4)]; exact c3
    rw [fm4]
    have c4 : (upd (upd (upd J3 p4 (.dK [])) p4 (.dK fk4)) p (.dK (mergeK (mergeK (mergeK fk1 fk2) fk3) fk4))) p = some (.dK (mergeK (mergeK (mergeK fk1 fk2) fk3) fk4)) := upd_same
    have n4 : ∀ b o, H b = some o → (upd (upd (upd J3 p4 (.dK [])) p4 (.dK fk4)) p (.dK (mergeK (mergeK (mergeK fk1 fk2) fk3) fk4))) b = some o := fun b o e => by rw [upd_ne (ne_of_none e hp), upd_ne (ne_of_none (n3 b o e) hp4), upd_ne (ne_of_none (n3 b o e) hp4)]; exact n3 b o e
    generalize upd (upd (upd J3 p4 (.dK [])) p4 (.dK fk4)) p (.dK (mergeK (mergeK (mergeK fk1 fk2) fk3) fk4)) = J4 at c4 n4 ⊢
    refine drop_of ⟨_, rfl, .inr (.inr (.inl ⟨rfl, .inl ⟨_, c4⟩⟩)), fun p5 hp5 => ⟨upd_same, fk5, rfl, by decide, p, p5, (mergeK (mergeK (mergeK fk1 fk2) fk3) fk4), mergeK [] fk5, rfl, rfl, ?_, upd_same, ne_of_none c4 hp5, by decide +kernel, ?_⟩⟩
    · rw [upd_ne (ne_of_none c4 hp5), upd_ne (ne_of_none c4 hp5)]; exact c4
    rw [fm5]
    have c5 : (upd (upd (upd J4 p5 (.dK [])) p5 (.dK fk5)) p (.dK (mergeK (mergeK (mergeK (mergeK fk1 fk2) fk3) fk4) fk5))) p = some (.dK (mergeK (mergeK (mergeK (mergeK fk1 fk2) fk3) fk4) fk5)) := upd_same
    have n5 : ∀ b o, H b = some o → (upd (upd (upd J4 p5 (.dK [])) p5 (.dK fk5)) p (.dK (mergeK (mergeK (mergeK (mergeK fk1 fk2) fk3) fk4) fk5))) b = some o := fun b o e => by rw [upd_ne (ne_of_none e hp), upd_ne (ne_of_none (n4 b o e) hp5), upd_ne (ne_of_none (n4 b o e) hp5)]; exact n4 b o e
    generalize upd (upd (upd J4 p5 (.dK [])) p5 (.dK fk5)) p (.dK (mergeK (mergeK (mergeK (mergeK fk1 fk2) fk3) fk4) fk5)) = J5 at c5 n5 ⊢
    rw [fmA] at c5
    exact ⟨_, rfl, k p J5 n5 c5⟩
end
end My

set_option Elab.async false
set_option linter.all false
set_option maxRecDepth 100000
set_option maxHeartbeats 4000000
namespace My
open PySem L2
section
variable {P : Program} {w : World} {K : PySem.W.Frag} {mg : Str → Option Value} {pB : Heap}
theorem asg_1 {te : TE} {i : Nat} {D : Ends} {σ : L2.St} {H : Hp} (h : te σ H fun x H1 => D.nx (σ.set i (some x)) H1) : tAsg te (gName i) D σ H := h
theorem val_l (x : Str) : ∀ l : List (Str × List Kd), valV (l.map fun p => ((Sum.inr p.1 : Key), V.str (ksignS p.2))) (Sum.inr x) = (l.find? fun p => decide (p.1 = x)).map fun p => V.str (ksignS p.2)
  | [] => rfl
  | p :: l => by
    by_cases e : p.1 = x
    · rw [List.map_cons, List.find?_cons_of_pos (by simpa using e), e]
      exact valV_pos rfl
    · rw [List.map_cons, List.find?_cons_of_neg (by simpa using e), valV_neg (fun z => e (Sum.inr.inj z))]
      exact val_l x l
theorem val_form (x : Str) : valV formK (Sum.inr x) = (formOf x).map fun ks => V.str (ksignS ks) := by
  rw [formK, val_l, formOf, Option.map_map]
  rfl
theorem form_all : ∀ p ∈ formL, p.2.length ≤ 9 := by decide
theorem form_len {x : Str} {ks : List Kd} (h : formOf x = some ks) : ks.length ≤ 9 := by
  unfold formOf at h
  obtain ⟨p, hp, rfl⟩ := Option.map_eq_some_iff.mp h
  exact form_all p (List.mem_of_find?_eq_some hp)
theorem sumO_none {l : List (Option Nat)} {j : Nat} (hj : l[j]? = some none) : sumO l = none := by
  have hl : j < l.length := (List.getElem?_eq_some_iff.mp hj).1
  have e1 : l = l.take j ++ (none :: l.drop (j + 1)) := by
    rw [List.getElem?_eq_getElem hl] at hj
    rw [← Option.some.inj hj, ← List.drop_eq_getElem_cons hl, List.take_append_drop]
  rw [e1, sumO_app]
  cases sumO (l.take j) <;> rfl
/-- a count, or a thousand and more -/
def Cn (o : Option Nat) (M : Int) : Prop := 0 ≤ M ∧ (∀ c, o = some c → M = (c : Int)) ∧ (o = none → 1000 ≤ M)
theorem Cn.snoc {l : List (Option Nat)} {j : Nat} {o : Option Nat} {M N : Int} (h : Cn (sumO (l.take j)) M) (hj : l[j]? = some o) (ho : Cn o N) : Cn (sumO (l.take (j + 1))) (M + N) := by
  rw [take_snoc hj, sumO_app]
  obtain ⟨h0, h1, h2⟩ := h
  obtain ⟨g0, g1, g2⟩ := ho
  cases hs : sumO (l.take j) with
  | none => exact ⟨by omega, fun c e => (by cases e), fun _ => (by have := h2 hs; omega)⟩
  | some a =>
    have e1 := h1 a hs
    cases o with
    | none => exact ⟨by omega, fun c e => (by cases e), fun _ => (by have := g2 rfl; omega)⟩
    | some b =>
      have e2 := g1 b rfl
      refine ⟨by omega, fun c e => ?_, fun e => by cases e⟩
      have e3 : a + (b + 0) = c := Option.some.inj e
      omega
theorem Cn.zero : Cn (some 0) 0 := ⟨by omega, fun c e => (by cases e; rfl), fun e => (by cases e)⟩
def spMany (n : Nat) : Sp := fun vs H Q _ => ∃ (m : Nat) (v : V) (d : PyData), vs = [v, .int (n : Int)] ∧ Rep H m v d ∧ szD d ≤ 1000000 ∧ ∀ (M : Int) (H' : Hp), Same H H' → Cn (cnt n d) M → Q (.int M) H'
def spPrevM : Nat → Sp
  | 0 => spBot
  | n + 1 => spMany n
end
end My

set_option Elab.async false
set_option linter.all false
set_option maxRecDepth 100000
set_option maxHeartbeats 4000000
namespace My
open PySem L2
section
variable {P : Program} {w : World} {K : PySem.W.Frag} {mg : Str → Option Value} {pB : Heap}
theorem isS_cn {d : PyData} {M : Int} (h : Cn (cnt 5 d) M) : decide (M ≤ 200) = isS d := by
  unfold isS
  obtain ⟨_, h1, h2⟩ := h
  cases hc : cnt 5 d with
  | none =>
    have := h2 hc
    exact decide_eq_false (by omega)
  | some c =>
    have := h1 c hc
    show decide (M ≤ 200) = decide (c ≤ 200)
    by_cases h : c ≤ 200
    · rw [decide_eq_true h, decide_eq_true (by omega)]
    · rw [decide_eq_false h, decide_eq_false (by omega)]
end
end My

set_option Elab.async false
set_option linter.all false
set_option maxRecDepth 100000
set_option maxHeartbeats 4000000
namespace My
open PySem L2
section
variable {P : Program} {w : World} {K : PySem.W.Frag} {mg : Str → Option Value}
/-- an entry of the table: its word, the tuple of its kinds' names -/
def EntAt (K : PySem.W.Frag) (e : DictEntry) (p : Str × List Kd) : Prop := (∃ t, e.key = .str p.1 t) ∧ ∃ a, e.val = .ref a ∧ ∀ H, SqT K H a (p.2.map fun k => V.str (kname k))
theorem isStr_key {x y : Str} {t : Tok} : (Value.str y t).isStr x = decide (y = x) := by
  rw [PySem.W.isStr_of]
  show (y == x) = decide (y = x)
  by_cases h : y = x
  · rw [decide_eq_true h, h, beq_self_eq_true]
  · rw [decide_eq_false h]
    exact beq_eq_false_iff_ne.mpr h
theorem find_ent {x : Str} : ∀ {es : List DictEntry} {L : List (Str × List Kd)}, Paired (EntAt K) es L →
    (match L.find? (fun p => decide (p.1 = x)) with
      | some p => ∃ e, es.find? (·.key.isStr x) = some e ∧ EntAt K e p
      | none => es.find? (·.key.isStr x) = none) ∧ es.any (·.refKey) = false
  | _, _, .nil => ⟨rfl, rfl⟩
  | e :: es, p :: L, .cons h r => by
    obtain ⟨⟨t, hk⟩, a, hv, hs⟩ := id h
    have ih := find_ent (x := x) r
    have e1 : e.key.isStr x = decide (p.1 = x) := by rw [hk, isStr_key]
    refine ⟨?_, ?_⟩
    · by_cases hx : p.1 = x
      · rw [List.find?_cons_of_pos (by simpa using hx)]
        exact ⟨e, List.find?_cons_of_pos (by rw [e1]; simpa using hx), h⟩
      · rw [List.find?_cons_of_neg (by simpa using hx), List.find?_cons_of_neg (by rw [e1]; simpa using hx)]
        exact ih.1
    · rw [List.any_cons, ih.2, Bool.or_false]
      show e.refKey = false
      unfold DictEntry.refKey
      rw [hk]
theorem deeds_mk {dA : Addr} {es : Array DictEntry} {n : Nat} (m : mg "DEEDS" = some (.ref dA)) (at_ : K.lookup dA = some ⟨.type "dict", none, .dict es n, #[]⟩) (lit : PySem.W.KeysLit w.params es.toList) (low : (dA == sysModules) = false) (pr : Paired (EntAt K) es.toList formL) : Deeds K w mg dA es n := by
  refine ⟨m, ⟨at_, lit, low⟩, fun x ks h => ?_, fun x h => ?_⟩
  · have f := (find_ent (x := x) pr).1
    unfold formOf at h
    obtain ⟨p, hp, rfl⟩ := Option.map_eq_some_iff.mp h
    rw [hp] at f
    obtain ⟨e, he, ⟨_, a, hv, hs⟩⟩ := f
    refine ⟨a, ?_, hs⟩
    unfold PySem.W.nsIn
    rw [at_]
    show (match es.toList.find? (·.key.isStr x) with | some e => some (some e.val) | none => if es.toList.any (·.refKey) then none else some none) = _
    rw [he, ← hv]
  · have f := find_ent (x := x) pr
    unfold formOf at h
    rw [Option.map_eq_none_iff.mp h] at f
    unfold PySem.W.nsIn
    rw [at_]
    show (match es.toList.find? (·.key.isStr x) with | some e => some (some e.val) | none => if es.toList.any (·.refKey) then none else some none) = _
    rw [f.1, f.2]
    rfl
end
end My

set_option Elab.async false
set_option linter.all false
set_option maxRecDepth 100000
set_option maxHeartbeats 4000000
namespace My
open PySem L2
/-! ### the pen and a plan, drawn from side by side -/
def planK (a : Int) : List (Key × V) := [(Sum.inr "left", .int a)]
structure Dg (H H' : Hp) (d l : Addr) (ms : List Int) (n n' L' : Int) (q : Addr) (a a' b : Int) : Prop where
  kp : ∀ c o, H c = some o → c ≠ d → c ≠ q → H' c = some o
  pn : Pen H' d l ms n' L'
  pl : H' q = some (.dK (planK a'))
  lo : n ≤ n'
  hi : n' ≤ n + b
  l0 : 0 ≤ a'
  l1 : a' ≤ a
section
variable {H H1 H2 : Hp} {d l q : Addr} {ms : List Int} {n n1 n2 L L1 L2 a a1 a2 b c : Int}
theorem Dg.refl (p : Pen H d l ms n L) (hq : H q = some (.dK (planK a))) (h0 : 0 ≤ a) : Dg H H d l ms n n L q a a 0 := ⟨fun _ _ e _ _ => e, p, hq, Int.le_refl _, by omega, h0, Int.le_refl _⟩
theorem Dg.trans (x : Dg H H1 d l ms n n1 L1 q a a1 b) (y : Dg H1 H2 d l ms n1 n2 L2 q a1 a2 c) : Dg H H2 d l ms n n2 L2 q a a2 (b + c) :=
  ⟨fun e o h h1 h2 => y.kp e o (x.kp e o h h1 h2) h1 h2, y.pn, y.pl, Int.le_trans x.lo y.lo, by have := x.hi; have := y.hi; omega, y.l0, Int.le_trans y.l1 x.l1⟩
theorem Dg.wk (x : Dg H H1 d l ms n n1 L1 q a a1 b) (h : b ≤ c) : Dg H H1 d l ms n n1 L1 q a a1 c := ⟨x.kp, x.pn, x.pl, x.lo, by have := x.hi; omega, x.l0, x.l1⟩
theorem Dg.same (x : Dg H H1 d l ms n n1 L1 q a a1 b) (s : Same H1 H2) : Dg H H2 d l ms n n1 L1 q a a1 b := ⟨fun e o h h1 h2 => s _ _ (x.kp e o h h1 h2), x.pn.same s, s _ _ x.pl, x.lo, x.hi, x.l0, x.l1⟩
/-- a draw alone leaves the plan -/
theorem Dg.of (x : Dr H H1 d l ms n n1 L1 b) (p : Pen H d l ms n L) (hq : H q = some (.dK (planK a))) (hne : q ≠ d) (h0 : 0 ≤ a) : Dg H H1 d l ms n n1 L1 q a a b :=
  ⟨fun e o h h1 _ => x.kp e o h h1, x.pn, x.kp _ _ hq hne, x.lo, x.hi, h0, Int.le_refl _⟩
theorem planK_ne (a : Int) : planK a ≠ [] := by intro z; cases z
theorem Dg.rep (x : Dg H H1 d l ms n n1 L1 q a a1 b) (p : Pen H d l ms n L) (hq : H q = some (.dK (planK a))) (hne : q ≠ d) {k : Nat} {v : V} {t : PyData} (r : Rep H k v t) : Rep H1 k v t := by
  have k1 : Kp d H (fun e => if e = q then H q else H1 e) := fun e o h h1 => by
    by_cases eq : e = q
    · show (if e = q then H q else H1 e) = some o
      rw [if_pos eq, ← eq]; exact h
    · show (if e = q then H q else H1 e) = some o
      rw [if_neg eq]; exact x.kp e o h h1 eq
  have r1 := r.keep p.dc (pen_ne _ _ _) k1
  have hq1 : (fun e => if e = q then H q else H1 e) q = some (.dK (planK a)) := by
    show (if q = q then H q else H1 q) = _
    rw [if_pos rfl]; exact hq
  exact r1.keep hq1 (planK_ne a) fun e o h h1 => by
    have h : (if e = q then H q else H1 e) = some o := h
    rw [if_neg h1] at h; exact h
/-- the plan's cell lowered -/
theorem Dg.take (p : Pen H d l ms n L) (hq : H q = some (.dK (planK a))) (hne : q ≠ d) (hl : l ≠ q) (h0 : 0 < a) : Dg H (upd H q (.dK (planK (a - 1)))) d l ms n n L q a (a - 1) 0 :=
  ⟨fun e o h _ h2 => by rw [upd_ne h2]; exact h, ⟨by rw [upd_ne (Ne.symm hne)]; exact p.dc, by rw [upd_ne hl]; exact p.ls, p.n0, p.l0⟩, upd_same, Int.le_refl _, by omega, by omega, by omega⟩
end
end My

set_option Elab.async false
set_option linter.all false
set_option maxRecDepth 100000
set_option maxHeartbeats 4000000
namespace My
open PySem L2
section
variable {P : Program} {w : World} {K : PySem.W.Frag} {mg : Str → Option Value} {pB : Heap}
/-! ### a part that is drawn -/
/-! ### the words of a script -/
def partW (f : PyData → List Str) (k : Kd) (d : PyData) : List Str := if isScr k = true then (if isNon d = true then [] else f d) else txD d
def deedW (f : PyData → List Str) : PyData → List Str
  | .tuple (.str x :: ps) => match formOf x with
    | some ks => (List.zipWith (partW f) ks ps).flatten
    | none => []
  | _ => []
def wds : Nat → PyData → List Str
  | 0, _ => []
  | n + 1, .tuple ds => (ds.map (deedW (wds n))).flatten
  | _ + 1, _ => []
theorem partW_leaf {f : PyData → List Str} {k : Kd} {d : PyData} (h : isScr k = false) : partW f k d = txD d := by
  unfold partW
  rw [if_neg (by rw [h]; decide)]
theorem partW_scr {f : PyData → List Str} {k : Kd} {d : PyData} (h : isScr k = true) (hd : isNon d = false) : partW f k d = f d := by
  unfold partW
  rw [if_pos h, if_neg (by rw [hd]; decide)]
def nK : Kd → Nat
  | .w => 1 | .v => 64 | .n => 8 | _ => 0
def szK : Kd → Nat
  | .w => 9 | .v => 576 | .n => 73 | _ => 1
/-- a part of a deed of a script drawn within j + 1 -/
def spPart (j : Nat) : Sp := fun vs H Q _ => ∃ (d l q : Addr) (ms : List Int) (n L a : Int) (kd : Kd), vs = [.ref d, .str ⟨#[ksign kd]⟩, .ref q, .int ((j + 1 : Nat) : Int)] ∧ Pen H d l ms n L ∧ H q = some (.dK (planK a)) ∧ 0 ≤ a ∧ n + 60000 * a + 40000 ≤ 2 ^ 36 ∧ (j = 0 → kd ≠ .S) ∧
  ∀ (v : V) (x : PyData) (n' L' a' : Int) (H' : Hp) (c : Nat), Rep H' (2 * j + 2) v x → partB (cnt j) kd x = some c → (c : Int) = a - a' → (szD x ≤ szK kd + 600 * c ∧ (partW (wds j) kd x).length ≤ nK kd + 65 * c) → Dg H H' d l ms n n' L' q a a' (60000 * c + 13002) → Q v H'
/-- a script drawn within j + 1 -/
def spScr (j : Nat) : Sp := fun vs H Q _ => ∃ (d l q : Addr) (ms : List Int) (n L a : Int), vs = [.ref d, .ref q, .int ((j + 1 : Nat) : Int)] ∧ Pen H d l ms n L ∧ H q = some (.dK (planK a)) ∧ 0 ≤ a ∧ n + 60000 * a + 20000 ≤ 2 ^ 36 ∧
  ∀ (v : V) (x : PyData) (n' L' a' : Int) (H' : Hp) (c : Nat), Rep H' (2 * j + 4) v x → cnt (j + 1) x = some c → (c : Int) = a - a' → (szD x ≤ 1 + 600 * c ∧ (wds (j + 1) x).length ≤ 65 * c) → Dg H H' d l ms n n' L' q a a' (60000 * c + 1) → Q v H'
def spPrevS : Nat → Sp
  | 0 => spBot
  | j + 1 => spScr j
theorem pen_plan {H : Hp} {d l q : Addr} {ms : List Int} {n L a : Int} (p : Pen H d l ms n L) (hq : H q = some (.dK (planK a))) : q ≠ d := ne_of hq p.dc (by intro z; have := congrArg List.length (HO.dK.inj z); simp [planK, pen] at this)
abbrev sPart : Stmt := top 16
theorem scPart : FnScope ["_law_held", "_law_kind", "_law_plan", "_law_within", "_law_number", "_law_k"] ["_law_held", "_law_kind", "_law_plan", "_law_within"] (defScope sPart) := ⟨rfl, rfl, rfl, by decide +kernel, rfl, by decide +kernel, by decide +kernel⟩
theorem cnt_tup {j c : Nat} {x : PyData} (h : cnt j x = some c) : isNon x = false := by
  cases j with
  | zero => cases h
  | succ j => cases x <;> first | rfl | cases h
theorem partB_scr {j c : Nat} {kd : Kd} {x : PyData} (hk : isScr kd = true) (h : cnt j x = some c) : partB (cnt j) kd x = some c := by
  unfold partB
  rw [if_pos hk, if_neg (fun z => by rw [cnt_tup h] at z; exact absurd z.2 (by decide))]
  exact h
theorem partB_leaf {j : Nat} {kd : Kd} {x : PyData} (hk : isScr kd = false) (h : partOk kd x = true) : partB (cnt j) kd x = some 0 := by
  unfold partB
  rw [if_neg (by rw [hk]; decide), if_pos h]
theorem btw_i {lo hi i : Int} (h : lo ≤ i ∧ i ≤ hi) : btw lo hi (.int i) = true := by
  rw [btw, decide_eq_true h.1, decide_eq_true h.2]; rfl
theorem isW_mono : ∀ {n m : Nat} {t : PyData}, n ≤ m → isW n t = true → isW m t = true
  | 0, m, t, _, h => by
    rcases @notTup t with ⟨ds, rfl⟩ | hn
    · cases h
    · rw [isW_leaf hn] at h ⊢; exact h
  | n + 1, 0, _, hm, _ => absurd hm (by omega)
  | n + 1, m + 1, t, hm, h => by
    rcases @notTup t with ⟨ds, rfl⟩ | hn
    · rw [isW, Bool.and_eq_true, List.all_eq_true] at h ⊢
      exact ⟨h.1, fun x hx => isW_mono (by omega) (h.2 x hx)⟩
    · rw [isW_leaf hn] at h ⊢; exact h
theorem paired_strs (H : Hp) (k : Nat) : ∀ ys : List Str, Paired (Rep H k) (ys.map V.str) (ys.map PyData.str)
  | [] => .nil
  | y :: ys => .cons (rep_s y) (paired_strs H k ys)
theorem szL_strs : ∀ ys : List Str, (∀ y ∈ ys, y.length ≤ 8) → szL (ys.map PyData.str) ≤ 9 * ys.length
  | [], _ => by simp [szL]
  | y :: ys, h => by
    have h1 := szL_strs ys fun z hz => h z (List.mem_cons_of_mem _ hz)
    have h2 := h y (List.mem_cons_self ..)
    rw [List.map_cons, szL, szD, List.length_cons]; omega
theorem step_part {f fS fD fV fW : Addr} {fd dS dD dV dW : FuncData} (F : Fun K "_law_part" "_law_part" sPart f fd) (j : Nat)
    (GS : FnOk P w K mg pB CX0 (2 * j + 6) fS dS ["_law_held", "_law_plan", "_law_within"] (spPrevS j)) (mS : mg "_law_script" = some (.ref fS)) (kS : PySem.W.keepIn K (.ref fS) = true) (bS : Binds K dS ["_law_held", "_law_plan", "_law_within"] [])
    (GD : FnOk P w K mg pB CX0 1 fD dD ["_law_held", "_law_many"] spDraw) (mD : mg "_law_draw" = some (.ref fD)) (kD : PySem.W.keepIn K (.ref fD) = true) (bD : Binds K dD ["_law_held", "_law_many"] [])
    (GV : FnOk P w K mg pB CX0 3 fV dV ["_law_held"] spWord) (mV : mg "_law_word" = some (.ref fV)) (kV : PySem.W.keepIn K (.ref fV) = true) (bV : Binds K dV ["_law_held"] [])
    (GW : FnOk P w K mg pB CX0 6 fW dW ["_law_held", "_law_within"] (spWor 2)) (mW : mg "_law_worth" = some (.ref fW)) (kW : PySem.W.keepIn K (.ref fW) = true) (bW' : Binds K dW ["_law_held", "_law_within"] [])
    (mInt : mg "int" = none) (mT : mg "tuple" = none) (mR : mg "range" = none) (mMax : mg "max" = none) : FnOk P w K mg pB CX0 (2 * j + 7) f fd ["_law_held", "_law_kind", "_law_plan", "_law_within"] (spPart j) := by
  refine F.ok scPart (fun vs H Q E h => ?_) (fun cdv A outer s H vs Q E hr h => ?_)
  · obtain ⟨d, l, q, ms, n, L, a, kd, rfl, _⟩ := h
    rfl
  · obtain ⟨d, l, q, ms, n, L, a, kd, rfl, p, hq, ha0, hn, hS, kont⟩ := h
    have nd := scPart.nd
    have hr1 : Room 1 _ := hr.mono (by omega)
    have hr3 : Room 3 _ := hr.mono (by omega)
    have hr6 : Room 6 _ := hr.mono (by omega)
    have hne := pen_plan p hq
    refine ⟨_, pss_cons (ps_set (i := 4) nd rfl (Or.inl rfl) (pe_ix ix_list (pe_lst (pa_cons pe_int (pa_cons pe_int (pa_cons (pe_call GD hr1 rfl mD kD bD .nil pass0 (pa_cons (pv 0) (pa_cons pe_int pa_nil))) (pa_cons pe_int pa_nil)))))
          (pe_call GD hr1 rfl mD kD bD .nil pass0 (pa_cons (pv 0) (pa_cons pe_int pa_nil))) (fun _ _ => rfl)))
      (pss_cons (ps_if (pt_cmpR op_eq (pv 1) pe_str (nomark _)) (pss_one (ps_ret (pe_ix ix_list (pe_lst (pa_cons pe_non (pa_cons (pv 4) pa_nil))) (pe_call GD hr1 rfl mD kD bD .nil pass0 (pa_cons (pv 0) (pa_cons pe_int pa_nil))) (fun _ _ => rfl)))) pss_nil)
      (pss_cons (ps_if (pt_cmpR op_in_sign (pv 1) pe_str rfl) (pss_one (ps_ret (pe_callB (call_max2 rfl) (by rfl) mMax (by decide +kernel) (pa_cons (pv 4) (pa_cons (pe_callTy call_int1 (by rfl) mInt (by decide +kernel) (pa_cons (pe_cmpR op_eq (pv 1) pe_str (nomark _)) pa_nil)) pa_nil))))) pss_nil)
      (pss_cons (ps_if (pt_cmpR op_in_sign (pv 1) pe_str rfl) (pss_one (ps_ret (pe_ifExp (pt_cmpR op_eq (pv 1) pe_str (nomark _)) (pe_call GV hr3 rfl mV kV bV .nil pass0 (pa_cons (pv 0) pa_nil)) (pe_call GD hr1 rfl mD kD bD .nil pass0 (pa_cons (pv 0) (pa_cons pe_int pa_nil)))))) pss_nil)
      (pss_cons (ps_if (pt_cmpR op_in_sign (pv 1) pe_str rfl) (pss_one (ps_ret (pe_ifExp (pt_cmpR op_eq (pv 1) pe_str (nomark _)) (pe_call GW hr6 rfl mW kW bW' .nil pass0 (pa_cons (pv 0) (pa_cons pe_int pa_nil)))
          (pe_tupleOf (by rfl) mT (pe_lc (own := [("_law_k", 5)]) (g := gName 5) (tt := tYes) (te := tCall spWord [] E0 (tCons (tVar 0) tNil)) rfl nd
            (pi_range1 rfl mR (pa_cons (pe_call GD hr1 rfl mD kD bD .nil pass0 (pa_cons (pv 0) (pa_cons pe_int pa_nil))) pa_nil))
            (blkOk_by (N := ["_law_held", "_law_kind", "_law_plan", "_law_within", "_law_number", "_law_k"]) (sc := defScope sPart) (by decide +kernel)) (fun _ _ _ _ _ => pg_name (i := 5) nd rfl (Or.inl rfl) (Or.inr rfl)) (fun _ _ _ _ _ => pts_nil)
            (fun _ _ _ _ _ => pe_call GV hr3 rfl mV kV bV .nil pass0 (pa_cons (pv 0) pa_nil))))))) pss_nil)
      (pss_cons (ps_if (PW.pt (pw_and (pt_cmpR op_eq (pv 1) pe_str (nomark _)) (pw_and1 (PW.pt (pw_or (pt_cmpR op_lt (pv 3) pe_int (nomark _)) (pw_or1 (pt_cmpR op_eq (pe_call GD hr1 rfl mD kD bD .nil pass0 (pa_cons (pv 0) (pa_cons pe_int pa_nil))) pe_int (nomark _)))))))) (pss_one (ps_ret pe_non)) pss_nil)
      (pss_one (ps_ret (pe_call GS hr rfl mS kS bS .nil pass0 (pa_cons (pv 0) (pa_cons (pv 2) (pa_cons (pe_op op_sub (pv 3) pe_int) pa_nil))))))))))), ?_⟩
    refine asg_n (rd_dr (m := 1001) rfl (fun _ h => h) p (by omega) (by decide) (by decide) fun r1 n1 L1 H1 a0 a1 x1 => ⟨by show 4 ≤ sizeLine; decide, fun u hu => ?_⟩)
    have s2 : Same H1 (upd H1 u (.lst [.int 0, .int 1, .int r1, .int 1000])) := Same.new (Same.refl _) hu
    have h1 := x1.hi
    refine rd_dr (m := 4) rfl (fun _ h => h) (x1.pn.same s2) (by omega) (by decide) (by decide) fun r2 n2 L2 H2 b0 b1 x2 => ?_
    have cu : H2 u = some (.lst [.int 0, .int 1, .int r1, .int 1000]) := x2.kp _ _ upd_same (ne_of upd_same (x1.pn.same s2).dc (by intro z; cases z))
    obtain ⟨v, hv, hat, _⟩ := atI_of (xs := [V.int 0, V.int 1, V.int r1, V.int 1000]) b0 b1
    have hx : ∃ i : Int, v = .int i ∧ 0 ≤ i ∧ i ≤ 1000 := by
      simp only [List.mem_cons, List.mem_nil_iff, or_false] at hv
      rcases hv with rfl | rfl | rfl | rfl
      · exact ⟨_, rfl, by decide, by decide⟩
      · exact ⟨_, rfl, by decide, by decide⟩
      · exact ⟨_, rfl, by omega, by omega⟩
      · exact ⟨_, rfl, by decide, by decide⟩
    refine ⟨u, _, _, v, rfl, rfl, SqL.of cu, hat, ?_⟩
    obtain ⟨num, rfl, num0, num1⟩ := hx
    have x : Dr H H2 d l ms n n2 L2 2 := ((x1.same s2).trans x2).wk (by decide)
    have h2 := x.hi
    have g2 : Dg H H2 d l ms n n2 L2 q a a 2 := Dg.of x p hq hne ha0
    clear hat cu hv x1 x2 s2 a0 a1 b0 b1 h1 hu
    have leafK : ∀ (v : V) (t : PyData) (n' L' : Int) (H' : Hp), isScr kd = false → Rep H' (2 * j + 2) v t → partOk kd t = true → (szD t ≤ szK kd ∧ (txD t).length ≤ nK kd) → Dr H2 H' d l ms n2 n' L' 13000 → Q v H' := fun v t n' L' H' hk hr ho hz x => kont v t n' L' a H' 0 hr (partB_leaf hk ho) (by omega) ⟨by omega, by rw [partW_leaf hk]; omega⟩ ((g2.trans (Dg.of x g2.pn g2.pl hne ha0)).wk (by omega))
    have scrK : ∀ (n3 L3 : Int) (H3 : Hp), Dr H2 H3 d l ms n2 n3 L3 1 → isScr kd = true → 0 < j → tCall (spPrevS j) [] E0 (tCons (tVar 0) (tCons (tVar 2) (tCons (tOp (rI0 fun i j => V.int (i - j)) (tVar 3) (tC (V.int 1))) tNil))) [some (.ref d), some (.str ⟨#[ksign kd]⟩), some (.ref q), some (.int ((j + 1 : Nat) : Int)), some (.int num), none] H3 Q := by
      intro n3 L3 H3 x3 hk hj
      have h3 := x3.hi
      have g3 := g2.trans (Dg.of x3 g2.pn g2.pl hne ha0)
      obtain ⟨i, rfl⟩ : ∃ i, j = i + 1 := ⟨j - 1, by omega⟩
      refine call_of ⟨_, rfl, _, rfl, _, rfl, _, _, rfl, rfl, d, l, q, ms, n3, L3, a, ?_, g3.pn, g3.pl, ha0, by omega, fun v t n4 L4 a4 H4 c hr4 hc ec hz x4 => ?_⟩
      · show [V.ref d, V.ref q, V.int (((i + 1 + 1 : Nat) : Int) - 1)] = [V.ref d, V.ref q, V.int ((i + 1 : Nat) : Int)]
        rw [show (((i + 1 + 1 : Nat) : Int) - 1) = ((i + 1 : Nat) : Int) by omega]
      · exact kont v t n4 L4 a4 H4 c (hr4.mono (by omega)) (partB_scr hk hc) ec ⟨Nat.le_trans hz.1 (Nat.add_le_add_right (by cases kd <;> first | decide | cases hk) _), by rw [partW_scr hk (cnt_tup hc)]; omega⟩ ((g3.trans x4).wk (by omega))
    cases kd with
    | w =>
      refine ⟨_, rfl, rfl, _, rfl, iteN (by decide +kernel) ?_⟩
      refine ⟨_, rfl, 119, "ke", rfl, rfl, _, rfl, iteN (by decide +kernel) ?_⟩
      refine ⟨_, rfl, 119, "wr", rfl, rfl, _, rfl, iteY (by decide +kernel) ?_⟩
      refine ⟨_, rfl, rfl, _, rfl, iteY (by decide +kernel) ?_⟩
      exact ⟨_, rfl, d, l, ms, n2, L2, rfl, x.pn, by omega, fun xw n3 L3 H3 hx hw x3 => leafK (.str xw) (.str xw) n3 L3 H3 rfl (rep_s xw) hw ⟨by rw [szD]; show 1 + xw.length ≤ 9; omega, Nat.le_refl 1⟩ (x3.wk (by decide))⟩
    | k =>
      refine ⟨_, rfl, rfl, _, rfl, iteN (by decide +kernel) ?_⟩
      refine ⟨_, rfl, 107, "ke", rfl, rfl, _, rfl, iteY (by decide +kernel) ?_⟩
      refine ⟨_, rfl, _, rfl, rfl, .inr ⟨_, rfl, _, _, rfl, ?_⟩⟩
      refine leafK _ (.int _) n2 L2 H2 rfl (rep_i _) (btw_i ?_) ⟨Nat.le_refl 1, Nat.zero_le _⟩ ((Dr.refl x.pn).wk (by decide))
      split <;> split <;> omega
    | e =>
      refine ⟨_, rfl, rfl, _, rfl, iteN (by decide +kernel) ?_⟩
      refine ⟨_, rfl, 101, "ke", rfl, rfl, _, rfl, iteY (by decide +kernel) ?_⟩
      refine ⟨_, rfl, _, rfl, rfl, .inr ⟨_, rfl, _, _, rfl, ?_⟩⟩
      refine leafK _ (.int _) n2 L2 H2 rfl (rep_i _) (btw_i ?_) ⟨Nat.le_refl 1, Nat.zero_le _⟩ ((Dr.refl x.pn).wk (by decide))
      rw [if_pos (show decide (V.str ⟨#[ksign Kd.e]⟩ = V.str "e") = true by decide +kernel)]
      split <;> omega
    | r =>
      refine ⟨_, rfl, rfl, _, rfl, iteN (by decide +kernel) ?_⟩
      refine ⟨_, rfl, 114, "ke", rfl, rfl, _, rfl, iteN (by decide +kernel) ?_⟩
      refine ⟨_, rfl, 114, "wr", rfl, rfl, _, rfl, iteY (by decide +kernel) ?_⟩
      refine ⟨_, rfl, rfl, _, rfl, iteN (by decide +kernel) ?_⟩
      exact rd_dr (m := 6) rfl (fun _ h => h) x.pn (by omega) (by decide) (by decide) fun r n3 L3 H3 c0 c1 x3 => leafK (.int r) (.int r) n3 L3 H3 rfl (rep_i _) (btw_i ⟨by omega, by omega⟩) ⟨Nat.le_refl 1, Nat.zero_le _⟩ (x3.wk (by decide))
    | i =>
      refine ⟨_, rfl, rfl, _, rfl, iteY (by decide +kernel) ?_⟩
      refine ⟨_, rfl, by show 2 ≤ sizeLine; decide, fun u hu => ?_⟩
      have s3 : Same H2 (upd H2 u (.lst [.non, .int num])) := Same.new (Same.refl _) hu
      refine rd_dr (m := 2) rfl (fun _ h => h) (x.pn.same s3) (by omega) (by decide) (by decide) fun r n3 L3 H3 c0 c1 x3 => ?_
      have cu : H3 u = some (.lst [.non, .int num]) := x3.kp _ _ upd_same (ne_of upd_same (x.pn.same s3).dc (by intro z; cases z))
      obtain ⟨v, hv, hat, _⟩ := atI_of (xs := [V.non, V.int num]) c0 c1
      refine ⟨u, _, _, v, rfl, rfl, SqL.of cu, hat, ?_⟩
      have x4 : Dr H2 H3 d l ms n2 n3 L3 13000 := (((Dr.refl x.pn).same s3).trans x3).wk (by decide)
      rcases List.mem_cons.mp hv with rfl | hv
      · exact leafK .non .none n3 L3 H3 rfl rep_n rfl ⟨Nat.le_refl 1, Nat.zero_le _⟩ x4
      · rw [List.mem_singleton.mp hv]
        refine leafK (.int num) (.int num) n3 L3 H3 rfl (rep_i _) ?_ ⟨Nat.le_refl 1, Nat.zero_le _⟩ x4
        show (isNon (.int num) || btw 0 1000 (.int num)) = true
        rw [show btw 0 1000 (.int num) = true from btw_i ⟨num0, num1⟩, Bool.or_true]
    | v =>
      refine ⟨_, rfl, rfl, _, rfl, iteN (by decide +kernel) ?_⟩
      refine ⟨_, rfl, 118, "ke", rfl, rfl, _, rfl, iteN (by decide +kernel) ?_⟩
      refine ⟨_, rfl, 118, "wr", rfl, rfl, _, rfl, iteN (by decide +kernel) ?_⟩
      refine ⟨_, rfl, 118, "vn", rfl, rfl, _, rfl, iteY (by decide +kernel) ?_⟩
      refine ⟨_, rfl, rfl, _, rfl, iteY (by decide +kernel) ?_⟩
      have hb : bW 2 = 12630 := by decide
      refine ⟨_, rfl, d, l, ms, n2, L2, rfl, x.pn, by rw [hb]; omega, fun v t n3 L3 H3 hr3 hz hw x3 => leafK v t n3 L3 H3 rfl (hr3.mono (by omega)) (isW_mono (by decide) hw) ⟨Nat.le_trans hz.1 (by decide), Nat.le_trans hz.2 (by decide)⟩ (x3.wk (by rw [hb]; decide))⟩
    | n =>
      refine ⟨_, rfl, rfl, _, rfl, iteN (by decide +kernel) ?_⟩
      refine ⟨_, rfl, 110, "ke", rfl, rfl, _, rfl, iteN (by decide +kernel) ?_⟩
      refine ⟨_, rfl, 110, "wr", rfl, rfl, _, rfl, iteN (by decide +kernel) ?_⟩
      refine ⟨_, rfl, 110, "vn", rfl, rfl, _, rfl, iteY (by decide +kernel) ?_⟩
      refine ⟨_, rfl, rfl, _, rfl, iteN (by decide +kernel) ?_⟩
      refine rd_dr (m := 9) rfl (fun _ h => h) x.pn (by omega) (by decide) (by decide) fun r n3 L3 H3 c0 c1 x3 => ?_
      have h3 := x3.hi
      refine ⟨_, rfl, by omega, by omega, fun D hD => ?_⟩
      refine lc_range (lo := 0) (n := r.toNat) (fun i H' => ∃ (n' L' : Int) (ys : List Str), Dr H3 H' d l ms n3 n' L' ((i : Int) * 20) ∧ ys.length = i ∧ H' D = some (.lst (ys.map V.str)) ∧ ∀ y ∈ ys, y.length ≤ 8 ∧ isWd y = true)
        ⟨n3, L3, [], ((Dr.refl x3.pn).same (Same.new (Same.refl _) hD)).wk (by simp), rfl, upd_same, fun t h => nomatch h⟩ (fun i H' hi p' => ?_) (fun H' p' => ?_)
      · obtain ⟨n', L', ys, y1, hl, hD', hys⟩ := p'
        have h4 := y1.hi
        refine ⟨rfl, yes_of (iteT (call_of ⟨_, rfl, d, l, ms, n', L', rfl, y1.pn, by omega, fun xw n5 L5 H5 hx5 hw5 x5 => ?_⟩))⟩
        have hD5 := x5.kp _ _ hD' (ne_of hD' y1.pn.dc (by intro z; cases z))
        refine ⟨ys.map V.str, hD5, by rw [List.length_map]; exact Nat.lt_of_le_of_lt (show ys.length ≤ 20 by omega) (by decide), n5, L5, ys ++ [xw], ?_, by rw [List.length_append, hl]; rfl, by rw [List.map_append]; exact upd_same, fun t ht => (List.mem_append.mp ht).elim (hys t) fun z => by rw [List.mem_singleton.mp z]; exact ⟨hx5, hw5⟩⟩
        exact ((y1.trans x5).upd x3.pn hD).wk (by omega)
      · obtain ⟨n', L', ys, y1, hl, hD', hys⟩ := p'
        have h4 := y1.hi
        refine .inl ⟨D, _, rfl, SqL.of hD', fun tq htq => ?_⟩
        have s7 : Same H' (upd H' tq (.tup (ys.map V.str))) := Same.new (Same.refl _) htq
        refine leafK (.ref tq) (.tuple (ys.map PyData.str)) n' L' _ rfl (rep_t (k := 2 * j + 1) upd_same (paired_strs _ _ ys)) ?_ ?_ (((x3.trans y1).same s7).wk (by omega))
        · show (decide ((ys.map PyData.str).length ≤ 8) && (ys.map PyData.str).all wdD) = true
          rw [List.length_map, decide_eq_true (by omega), Bool.true_and, List.all_eq_true]
          intro t ht
          obtain ⟨y, hy, rfl⟩ := List.mem_map.mp ht
          exact (hys y hy).2
        · have hz := szL_strs ys (fun y hy => (hys y hy).1)
          rw [szD, txD, txL_strs]
          show 1 + szL (ys.map PyData.str) ≤ 73 ∧ ys.length ≤ 8
          omega
    | S =>
      refine ⟨_, rfl, rfl, _, rfl, iteN (by decide +kernel) ?_⟩
      refine ⟨_, rfl, 83, "ke", rfl, rfl, _, rfl, iteN (by decide +kernel) ?_⟩
      refine ⟨_, rfl, 83, "wr", rfl, rfl, _, rfl, iteN (by decide +kernel) ?_⟩
      refine ⟨_, rfl, 83, "vn", rfl, rfl, _, rfl, iteN (by decide +kernel) ?_⟩
      refine ⟨_, rfl, rfl, _, rfl, iteN (by decide +kernel) (iteF ?_)⟩
      exact scrK n2 L2 H2 ((Dr.refl x.pn).wk (by decide)) rfl (Nat.pos_of_ne_zero fun z => hS z rfl)
    | s =>
      refine ⟨_, rfl, rfl, _, rfl, iteN (by decide +kernel) ?_⟩
      refine ⟨_, rfl, 115, "ke", rfl, rfl, _, rfl, iteN (by decide +kernel) ?_⟩
      refine ⟨_, rfl, 115, "wr", rfl, rfl, _, rfl, iteN (by decide +kernel) ?_⟩
      refine ⟨_, rfl, 115, "vn", rfl, rfl, _, rfl, iteN (by decide +kernel) ?_⟩
      refine ⟨_, rfl, rfl, _, rfl, iteY (by decide +kernel) ?_⟩
      have nonK : ∀ (n' L' : Int) (H' : Hp), Dr H2 H' d l ms n2 n' L' 13000 → Q .non H' := fun n' L' H' x' => kont .non .none n' L' a H' 0 rep_n rfl (by omega) ⟨Nat.le_refl 1, Nat.zero_le _⟩ ((g2.trans (Dg.of x' g2.pn g2.pl hne ha0)).wk (by omega))
      by_cases hj : j = 0
      · subst hj
        exact ⟨_, rfl, _, _, rfl, rfl, _, rfl, iteY (by decide) (iteT (nonK n2 L2 H2 ((Dr.refl x.pn).wk (by decide))))⟩
      · refine ⟨_, rfl, _, _, rfl, rfl, _, rfl, iteN (by omega) ?_⟩
        refine rd_dr (m := 3) rfl (fun _ h => h) x.pn (by omega) (by decide) (by decide) fun r n3 L3 H3 c0 c1 x3 => ⟨rfl, _, rfl, ite2 (fun c => ?_) (fun c => ?_)⟩
        · exact nonK n3 L3 H3 (x3.wk (by decide))
        · exact scrK n3 L3 H3 x3 rfl (Nat.pos_of_ne_zero hj)
end
end My

set_option Elab.async false
set_option linter.all false
set_option maxRecDepth 100000
set_option maxHeartbeats 4000000
namespace My
open PySem L2
section
variable {P : Program} {w : World} {K : PySem.W.Frag} {mg : Str → Option Value} {pB : Heap}
theorem Dg.upd {H H' : Hp} {d l q D : Addr} {ms : List Int} {n n' L L' a a' b : Int} {o : HO} (x : Dg H H' d l ms n n' L' q a a' b) (p : Pen H d l ms n L) (hq : H q = some (.dK (planK a))) (hD : H D = none) : Dg H (L2.upd H' D o) d l ms n n' L' q a a' b :=
  ⟨fun c u e h1 h2 => by rw [upd_ne (ne_of_none e hD)]; exact x.kp c u e h1 h2, ⟨by rw [upd_ne (ne_of_none p.dc hD)]; exact x.pn.dc, by rw [upd_ne (ne_of_none p.ls hD)]; exact x.pn.ls, x.pn.n0, x.pn.l0⟩, by rw [upd_ne (ne_of_none hq hD)]; exact x.pl, x.lo, x.hi, x.l0, x.l1⟩
/-! ### the words of forms -/
def wOk (j : Nat) (p : Str × List Kd) : Bool := decide (0 < j) || !decide (Kd.S ∈ p.2)
def wordsL (j : Nat) : List V := (formL.filter (wOk j)).map fun p => V.str p.1
theorem form_of : ∀ p ∈ formL, formOf p.1 = some p.2 := by decide +kernel
theorem form_sz : ∀ p ∈ formL, (p.2.map szK).sum ≤ 585 ∧ p.1.length ≤ 8 ∧ p.2.length ≤ 4 ∧ (p.2.map nK).sum ≤ 65 := by decide +kernel
theorem words_len : ∀ j, 0 < (wordsL j).length ∧ (wordsL j).length ≤ 30
  | 0 => by decide +kernel
  | j + 1 => by
    have e : wordsL (j + 1) = wordsL 1 := by
      unfold wordsL
      refine congrArg _ (congrArg (fun g => List.filter g formL) (funext fun p => ?_))
      unfold wOk
      rw [decide_eq_true (show 0 < j + 1 by omega)]
      rfl
    rw [e]; decide +kernel
theorem sign_S (ks : List Kd) : decide (83 ∈ (ksignS ks).cps.toList) = decide (Kd.S ∈ ks) := by
  have e : (83 ∈ (ksignS ks).cps.toList) ↔ Kd.S ∈ ks := by
    show 83 ∈ (ks.map ksign).toArray.toList ↔ _
    rw [List.toList_toArray, List.mem_map]
    refine ⟨fun ⟨k, hk, e⟩ => ?_, fun h => ⟨_, h, rfl⟩⟩
    cases k <;> first | exact hk | exact absurd e (by decide)
  exact decide_eq_decide.mpr e
theorem sumO_s1 {l : List (Option Nat)} {a b : Nat} (h : sumO l = some a) : sumO (l ++ [some b]) = some (a + b) := by
  rw [sumO_app, h]; rfl
theorem plan_get {H : Hp} {q : Addr} {a : Int} (h : H q = some (.dK (planK a))) : DGet H q (.str "left") (some (.int a)) := by
  have h := DGet.k (k := (Sum.inr "left" : Key)) h
  rw [show valV (planK a) (Sum.inr "left") = some (.int a) from valV_pos rfl] at h
  exact h
theorem plan_put {H : Hp} {q : Addr} {a b : Int} (h : H q = some (.dK (planK a))) : DPut H q (.str "left") (.int b) (L2.upd H q (.dK (planK b))) := by
  have h := DPut.k (k := (Sum.inr "left" : Key)) (v := .int b) h (by show 1 < sizeLine; decide)
  rw [show putK (planK a) (Sum.inr "left") (.int b) = planK b by simp [putK, planK]] at h
  exact h
theorem mem_words {j : Nat} {x : V} (h : x ∈ wordsL j) : ∃ p ∈ formL, x = .str p.1 ∧ (j = 0 → Kd.S ∉ p.2) := by
  obtain ⟨p, hp, rfl⟩ := List.mem_map.mp h
  obtain ⟨h1, h2⟩ := List.mem_filter.mp hp
  refine ⟨p, h1, rfl, fun e => ?_⟩
  subst e
  intro z
  unfold wOk at h2
  rw [decide_eq_true z] at h2
  exact absurd h2 (by decide)
theorem form_get {H : Hp} {q : Addr} {p : Str × List Kd} (h : H q = some (.dK formK)) (hp : p ∈ formL) : DGet H q (.str p.1) (some (.str (ksignS p.2))) := by
  have h := DGet.k (k := (Sum.inr p.1 : Key)) h
  rw [val_form, form_of p hp] at h
  exact h
theorem form_getF {H : Hp} {q : Addr} {o : Obj} {p : Str × List Kd} (h : H q = some (.frz o (.dK formK))) (hp : p ∈ formL) : DGet H q (.str p.1) (some (.str (ksignS p.2))) := by
  have e : some (V.str (ksignS p.2)) = valV formK (Sum.inr p.1) := by rw [val_form, form_of p hp]; rfl
  exact .inl ⟨formK, Sum.inr p.1, .inr ⟨o, h⟩, rfl, e⟩
abbrev sScr : Stmt := top 17
abbrev nScr : List Str := ["_law_held", "_law_plan", "_law_within", "_law_rows", "_law_forms_here", "_law_words", "_law_k", "_law_word_here", "_law_kind"]
theorem scScr : FnScope nScr ["_law_held", "_law_plan", "_law_within"] (defScope sScr) := ⟨rfl, rfl, rfl, by decide +kernel, rfl, by decide +kernel, by decide +kernel⟩
theorem step_scr {f fP fF fK fD : Addr} {fd dP dF dK dD : FuncData} (F : Fun K "_law_script" "_law_script" sScr f fd) (j : Nat)
    (GP : FnOk P w K mg pB CX0 (2 * j + 7) fP dP ["_law_held", "_law_kind", "_law_plan", "_law_within"] (spPart j)) (mP : mg "_law_part" = some (.ref fP)) (kP : PySem.W.keepIn K (.ref fP) = true) (bP : Binds K dP ["_law_held", "_law_kind", "_law_plan", "_law_within"] [])
    (GF : FnOk P w K mg pB CX0 1 fF dF [] spForms) (mF : mg "_law_forms" = some (.ref fF)) (kF : PySem.W.keepIn K (.ref fF) = true) (bF : Binds K dF [] [])
    (GK : FnOk P w K mg pB CX0 2 fK dK ["_law_held", "_law_some"] spPick) (mK : mg "_law_pick" = some (.ref fK)) (kK : PySem.W.keepIn K (.ref fK) = true) (bK : Binds K dK ["_law_held", "_law_some"] [])
    (GD : FnOk P w K mg pB CX0 1 fD dD ["_law_held", "_law_many"] spDraw) (mD : mg "_law_draw" = some (.ref fD)) (kD : PySem.W.keepIn K (.ref fD) = true) (bD : Binds K dD ["_law_held", "_law_many"] [])
    (mT : mg "tuple" = none) (mR : mg "range" = none) : FnOk P w K mg pB CX0 (2 * j + 8) f fd ["_law_held", "_law_plan", "_law_within"] (spScr j) := by
  refine F.ok scScr (fun vs H Q E h => ?_) (fun cdv A outer s H vs Q E hr h => ?_)
  · obtain ⟨d, l, q, ms, n, L, a, rfl, _⟩ := h
    rfl
  · obtain ⟨d, l, q, ms, n, L, a, rfl, p, hq, ha0, hn, kont⟩ := h
    have nd := scScr.nd
    have hr1 : Room 1 _ := hr.mono (by omega)
    have hr2 : Room 2 _ := hr.mono (by omega)
    have hu := hu_of hr
    have hne := pen_plan p hq
    refine ⟨_, pss_cons (ps_asg (pe_tup (pa_cons (pe_lst pa_nil) (pa_cons (pe_call0 GF hr1 rfl mF kF bF .nil pass0) pa_nil))) (pg_tup rfl (pgs_cons (pg_name (i := 3) nd rfl (Or.inl rfl)) (pgs_cons (pg_name (i := 4) nd rfl (Or.inr rfl)) pgs_nil))))
      (pss_cons (ps_lock (ps_setLc (i := 5) (own := [("_law_word_here", 7)]) (g := gName 7) (tt := tOr (tTest (tOp (rI0 fun i j => .bl (decide (j < i))) (tVar 2) (tC (.int 1)))) (tTest (tOp (fun x y H Q => ∃ (c : Nat) (z : Str), x = .str ⟨#[c]⟩ ∧ y = .str z ∧ Q (.bl (!decide (c ∈ z.cps.toList))) H) (tC (.str "S")) (tDGet (tVar 4) (tVar 7))))) (te := tVar 7) rfl nd rfl rfl (sw_true rfl rfl rfl (by decide +kernel)) (pi_keys (pv 4))
          (blkOk_by (N := nScr) (sc := defScope sScr) (by decide +kernel)) (fun _ _ _ _ _ => pg_name (i := 7) nd rfl (Or.inl rfl) (Or.inr rfl))
          (fun _ _ _ _ _ => pts_one (PW.pt (pw_or (pt_cmpR op_gt (pv 2) pe_int (nomark _)) (pw_or1 (pt_cmpR op_notIn_sign pe_str (pe_dget hu (pv 4) (pv 7) (fun _ _ => rfl)) rfl))))) (fun _ _ _ _ _ => pv 7)))
      (pss_cons (ps_for PassesOwn.never rfl (pi_range1 rfl mR (pa_cons (pe_call GD hr1 rfl mD kD bD .nil pass0 (pa_cons (pv 0) (pa_cons pe_int pa_nil))) pa_nil)) (pg_name (i := 6) nd rfl (Or.inl rfl))
        (pss_one (ps_if (pt_cmpR op_gt (pe_dget hu (pv 1) pe_str (fun _ _ => rfl)) pe_int (nomark _))
          (pss_cons (ps_dput hu (pv 1) pe_str (pe_op op_sub (pe_dget hu (pv 1) pe_str (fun _ _ => rfl)) pe_int) rfl)
          (pss_cons (ps_set (i := 7) nd rfl (Or.inl rfl) (pe_call GK hr2 rfl mK kK bK .nil pass0 (pa_cons (pv 0) (pa_cons (pv 5) pa_nil))))
          (pss_one (ps_expr (pe_bm PySem.F.plainAttrs_list PySem.F.slot_list_append PySem.F.type_list_append mt_append (pv 3) (pa_cons (pe_tupleOf (by rfl) mT (pe_op op_cat (pe_lst (pa_cons (pv 7) pa_nil))
            (pe_lc (own := [("_law_kind", 8)]) (g := gName 8) (tt := tYes) (te := tCall (spPart j) [] E0 (tCons (tVar 0) (tCons (tVar 8) (tCons (tVar 1) (tCons (tVar 2) tNil))))) rfl nd (pi_str (pe_dget hu (pv 4) (pv 7) (fun _ _ => rfl)))
              (blkOk_by (N := nScr) (sc := defScope sScr) (by decide +kernel)) (fun _ _ _ _ _ => pg_name (i := 8) nd rfl (Or.inl rfl) (Or.inr rfl)) (fun _ _ _ _ _ => pts_nil)
              (fun _ _ _ _ _ => pe_call GP hr rfl mP kP bP .nil pass0 (pa_cons (pv 0) (pa_cons (pv 8) (pa_cons (pv 1) (pa_cons (pv 2) pa_nil)))))))) pa_nil)))))) pss_nil)))
      (pss_one (ps_ret (pe_tupleOf (by rfl) mT (pv 3)))))), ?_⟩
    refine asg_of ⟨Nat.zero_le _, fun R hR => ⟨rfl, fun Fm J sJ cF => ⟨by show 2 ≤ sizeLine; decide, fun tq htq => ⟨tq, _, rfl, SqT.of upd_same, rfl, _, _, rfl, _, _, rfl, rfl, ?_⟩⟩⟩⟩
    have cR : J R = some (.lst []) := sJ _ _ upd_same
    have s0 : Same H J := (Same.new (Same.refl _) hR).trans sJ
    have s1 : Same J (L2.upd J tq (.tup [.ref R, .ref Fm])) := Same.new (Same.refl _) htq
    have cF1 := s1 _ _ cF
    have cR1 := s1 _ _ cR
    have s01 := s0.trans s1
    generalize L2.upd J tq (.tup [.ref R, .ref Fm]) = J1 at s1 cF1 cR1 s01 ⊢
    refine ⟨Fm, .dK formK, cF1, trivial, fun od => ?_⟩
    refine ⟨_, rfl, Fm, od, rfl, .inl ⟨formK, upd_same, fun D hD => ?_⟩⟩
    have hDF : D ≠ Fm := fun z => by rw [z, upd_same] at hD; cases hD
    have hD1 : J1 D = none := by rw [upd_ne hDF] at hD; exact hD
    have hDR : D ≠ R := fun z => by rw [z, cR1] at hD1; cases hD1
    have hDH : H D = none := by
      cases e : H D with
      | none => rfl
      | some o => rw [s01 _ _ e] at hD1; cases hD1
    refine lc_it walk_keys (fun i H' => Same (L2.upd J1 Fm (.frz od (.dK formK))) H' ∧ H' D = some (.lst (((formL.take i).filter (wOk j)).map fun p => V.str p.1))) ⟨Same.new (Same.refl _) hD, upd_same⟩ (fun i H' _ p' => p'.1 _ _ upd_same) (fun i x H2 H3 hi p' y => ?_) (fun H2 p' => ?_)
    · obtain ⟨rfl, k, v, hk, rfl⟩ := y
      obtain ⟨p1, p2⟩ := p'
      obtain ⟨p0, hp0, e0⟩ : ∃ p0, formL[i]? = some p0 ∧ (Sum.inr p0.1, V.str (ksignS p0.2)) = (k, v) := by
        unfold formK at hk
        rw [List.getElem?_map] at hk
        exact Option.map_eq_some_iff.mp hk
      cases e0
      have hm0 : p0 ∈ formL := List.mem_of_getElem? hp0
      have hlen : (((formL.take i).filter (wOk j)).map fun p => V.str p.1).length < sizeLine := by
        rw [List.length_map]
        exact Nat.lt_of_le_of_lt (List.length_filter_le _ _) (Nat.lt_of_le_of_lt (List.length_take_le' _ _) (by decide +kernel))
      have yes : wOk j p0 = true → ∃ acc, H3 D = some (.lst acc) ∧ acc.length < sizeLine ∧ (Same (L2.upd J1 Fm (.frz od (.dK formK))) (L2.upd H3 D (.lst (acc ++ [V.str p0.1]))) ∧ (L2.upd H3 D (.lst (acc ++ [V.str p0.1]))) D = some (.lst (((formL.take (i + 1)).filter (wOk j)).map fun p => V.str p.1))) := fun hw => by
        refine ⟨_, p2, hlen, fun b o e => ?_, ?_⟩
        · rw [upd_ne (ne_of_none e hD)]; exact p1 b o e
        · rw [upd_same, take_snoc hp0, List.filter_append, List.filter_cons_of_pos hw, List.map_append]; rfl
      have no : wOk j p0 = false → Same (L2.upd J1 Fm (.frz od (.dK formK))) H3 ∧ H3 D = some (.lst (((formL.take (i + 1)).filter (wOk j)).map fun p => V.str p.1)) := fun hw => by
        refine ⟨p1, ?_⟩
        rw [take_snoc hp0, List.filter_append, List.filter_cons_of_neg (by rw [hw]; decide), List.filter_nil, List.append_nil]
        exact p2
      refine ⟨rfl, ?_⟩
      by_cases hj : 0 < j
      · refine ⟨_, rfl, _, _, rfl, rfl, _, rfl, iteY (by omega) (iteT ⟨_, rfl, yes ?_⟩)⟩
        unfold wOk
        rw [decide_eq_true hj]; rfl
      · refine ⟨_, rfl, _, _, rfl, rfl, _, rfl, iteN (by omega) ?_⟩
        refine ⟨_, rfl, _, rfl, Fm, _, rfl, form_getF (p1 _ _ upd_same) hm0, 83, ksignS p0.2, rfl, rfl, _, rfl, ?_⟩
        rw [sign_S]
        by_cases hS : Kd.S ∈ p0.2
        · rw [decide_eq_true hS]
          refine iteF (no ?_)
          unfold wOk
          rw [decide_eq_true hS, decide_eq_false hj]; rfl
        · rw [decide_eq_false hS]
          refine iteT ⟨_, rfl, yes ?_⟩
          unfold wOk
          rw [decide_eq_false hS, decide_eq_false hj]; rfl
    obtain ⟨p1, p2⟩ := p'
    refine ⟨p1 _ _ upd_same, ?_⟩
    have cW2 : H2 D = some (.lst (wordsL j)) := by
      rw [p2, List.take_of_length_le (by decide +kernel)]; rfl
    have cR2 : H2 R = some (.lst []) := p1 _ _ (by rw [upd_ne (ne_of cR1 cF1 (by intro z; cases z))]; exact cR1)
    have sH2 : Same H (L2.upd H2 Fm (.dK formK)) := fun b o e => by
      have e1 := s01 _ _ e
      by_cases hb : b = Fm
      · rw [hb] at e1 ⊢
        rw [upd_same, ← cF1]; exact e1
      · rw [upd_ne hb]
        exact p1 _ _ (by rw [upd_ne hb]; exact e1)
    have cF5 : (L2.upd H2 Fm (.dK formK)) Fm = some (.dK formK) := upd_same
    have cW5 : (L2.upd H2 Fm (.dK formK)) D = some (.lst (wordsL j)) := by rw [upd_ne hDF]; exact cW2
    have cR5 : (L2.upd H2 Fm (.dK formK)) R = some (.lst []) := by rw [upd_ne (ne_of cR1 cF1 (by intro z; cases z))]; exact cR2
    generalize L2.upd H2 Fm (.dK formK) = H5 at sH2 cF5 cW5 cR5 ⊢
    clear p1 p2 cW2 cR2 hD hD1 cF1 cR1 s1 s01 cR s0 sJ cF htq
    have p5 := p.same sH2
    have hRd : ∀ {H' : Hp} {n' L' : Int} {o : HO}, Pen H' d l ms n' L' → H' R = some o → (∃ ys, o = .lst ys) → R ≠ d := fun pn e ⟨ys, eo⟩ => ne_of e pn.dc (by rw [eo]; intro z; cases z)
    have hFd : Fm ≠ d := ne_of cF5 p5.dc (by intro z; have := congrArg List.length (HO.dK.inj z); simp [pen, formK, formL] at this)
    have hFq : Fm ≠ q := ne_of cF5 (sH2 _ _ hq) (by intro z; have := congrArg List.length (HO.dK.inj z); simp [planK, formK, formL] at this)
    have hWd : D ≠ d := ne_of cW5 p5.dc (by intro z; cases z)
    have hWq : D ≠ q := ne_of cW5 (sH2 _ _ hq) (by intro z; cases z)
    have hRd : R ≠ d := ne_of cR5 p5.dc (by intro z; cases z)
    have hRq : R ≠ q := ne_of cR5 (sH2 _ _ hq) (by intro z; cases z)
    have hRF : R ≠ Fm := ne_of cR5 cF5 (by intro z; cases z)
    refine rd_dr (m := 7) rfl (fun _ h => h) p5 (by omega) (by decide) (by decide) fun r n6 L6 H6 r0 r1 x6 => ?_
    have h6 := x6.hi
    have g6 : Dg H H6 d l ms n n6 L6 q a a 1 := ⟨fun c o e h1 _ => x6.kp _ _ (sH2 _ _ e) h1, x6.pn, x6.kp _ _ (sH2 _ _ hq) hne, x6.lo, x6.hi, ha0, Int.le_refl _⟩
    have cF6 := x6.kp _ _ cF5 hFd
    have cW6 := x6.kp _ _ cW5 hWd
    have cR6 := x6.kp _ _ cR5 hRd
    clear x6 cF5 cW5 cR5
    refine ⟨_, rfl, by omega, by omega, ?_⟩
    refine for_range (lo := 0) (n := r.toNat) (fun i σ H' => ∃ (x6 x7 : Option V) (n' L' a' : Int) (ys : List V) (ts : List PyData) (c c0 : Nat), σ = [some (.ref d), some (.ref q), some (.int ((j + 1 : Nat) : Int)), some (.ref R), some (.ref Fm), some (.ref D), x6, x7, none] ∧
      Dg H H' d l ms n n' L' q a a' (60000 * c + 1) ∧ (c : Int) = a - a' ∧ H' R = some (.lst ys) ∧ H' Fm = some (.dK formK) ∧ H' D = some (.lst (wordsL j)) ∧ Paired (Rep H' (2 * j + 3)) ys ts ∧ ys.length ≤ i ∧ sumO (ts.map (deedB (cnt j))) = some c0 ∧ ts.length + c0 = c ∧ (szL ts ≤ 600 * c ∧ ((ts.map (deedW (wds j))).flatten).length ≤ 65 * c))
      ⟨none, none, n6, L6, a, [], [], 0, 0, rfl, g6.wk (by omega), by omega, cR6, cF6, cW6, .nil, Nat.zero_le _, rfl, rfl, ⟨Nat.zero_le _, Nat.zero_le _⟩⟩ (fun i σ H7 hi p' => ?_) (fun σ H7 p' => ?_)
    · obtain ⟨y6, y7, n7, L7, a7, ys, ts, c, c0, rfl, g7, ec, cR7, cF7, cW7, hp7, hl7, hs7, hc7, hz7⟩ := p'
      have h7 := g7.hi
      refine ⟨_, rfl, q, _, rfl, plan_get g7.pl, _, _, rfl, rfl, _, rfl, ite2 (fun ca => ?_) (fun ca => ?_)⟩
      · have ca := of_decide_eq_true ca
        refine ⟨_, rfl, q, _, rfl, plan_get g7.pl, _, _, rfl, rfl, _, rfl, q, _, rfl, plan_put g7.pl, ?_⟩
        have ne7 := pen_plan g7.pn g7.pl
        have g8 := Dg.take g7.pn g7.pl ne7 (ne_of g7.pn.ls g7.pl (by intro z; cases z)) ca
        have cR8 := g8.kp _ _ cR7 hRd hRq
        have cF8 := g8.kp _ _ cF7 hFd hFq
        have cW8 := g8.kp _ _ cW7 hWd hWq
        have hp8 : Paired (Rep (L2.upd H7 q (.dK (planK (a7 - 1)))) (2 * j + 3)) ys ts := Paired.mapP hp7 fun _ _ z => g8.rep g7.pn g7.pl ne7 z
        generalize L2.upd H7 q (.dK (planK (a7 - 1))) = H8 at g8 cR8 cF8 cW8 hp8 ⊢
        refine nxt_of (asg_n ⟨_, rfl, _, rfl, d, l, ms, n7, L7, .ref D, rfl, g8.pn, by omega, .inr ⟨D, wordsL j, rfl, cW8, (words_len j).1, Nat.le_trans (words_len j).2 (by decide), fun xw n9 L9 H9 hxw x9 => ?_⟩⟩)
        obtain ⟨pf, hpf, rfl, hSf⟩ := mem_words hxw
        obtain ⟨fz1, fz2, fz3, fz4⟩ := form_sz pf hpf
        have g9 : Dg H7 H9 d l ms n7 n9 L9 q a7 (a7 - 1) 1 := (g8.trans (Dg.of x9 g8.pn g8.pl ne7 g8.l0)).wk (by omega)
        have cR9 := x9.kp _ _ cR8 hRd
        have cF9 := x9.kp _ _ cF8 hFd
        have cW9 := x9.kp _ _ cW8 hWd
        have hp9 : Paired (Rep H9 (2 * j + 3)) ys ts := Paired.mapP hp8 fun _ _ z => x9.rep g8.pn z
        have h9 := g9.hi
        clear g8 cR8 cF8 cW8 hp8 x9
        have hys : ys.length < sizeLine := Nat.lt_of_le_of_lt (show ys.length ≤ 7 by omega) (by decide)
        refine ⟨_, rfl, .inl ⟨rfl, _, SqL.of cR9⟩, ?_⟩
        refine ⟨_, rfl, by show 1 ≤ sizeLine; decide, fun u hu => ?_⟩
        have s10 : Same H9 (L2.upd H9 u (.lst [.str pf.1])) := Same.new (Same.refl _) hu
        have g10 := g9.same s10
        have cR10 := s10 _ _ cR9
        have cF10 := s10 _ _ cF9
        have cW10 := s10 _ _ cW9
        have hp10 : Paired (Rep (L2.upd H9 u (.lst [.str pf.1])) (2 * j + 3)) ys ts := Paired.mapP hp9 fun _ _ z => z.same s10
        have cu10 : (L2.upd H9 u (.lst [.str pf.1])) u = some (.lst [.str pf.1]) := upd_same
        generalize L2.upd H9 u (.lst [.str pf.1]) = H10 at s10 g10 cR10 cF10 cW10 hp10 cu10 ⊢
        clear g9 cR9 cF9 cW9 hp9
        have hud : u ≠ d := ne_of cu10 g10.pn.dc (by intro z; cases z)
        have huq : u ≠ q := ne_of cu10 g10.pl (by intro z; cases z)
        refine ⟨_, rfl, _, rfl, Fm, _, rfl, form_get cF10 hpf, ksignS pf.2, rfl, fun D2 hD2 => ?_⟩
        have ek : (ksignS pf.2).cps.size = pf.2.length := by show (pf.2.map ksign).toArray.size = _; rw [List.size_toArray, List.length_map]
        refine lc_str (x := ksignS pf.2) (fun i H' => ∃ (n' L' a' : Int) (zs : List V) (us : List PyData) (e : Nat), Dg H10 H' d l ms n9 n' L' q (a7 - 1) a' (60000 * e + 13002 * i) ∧ (e : Int) = (a7 - 1) - a' ∧ zs.length = i ∧ H' D2 = some (.lst zs) ∧ Paired (Rep H' (2 * j + 2)) zs us ∧ sumO (List.zipWith (partB (cnt j)) (pf.2.take i) us) = some e ∧ (szL us ≤ ((pf.2.take i).map szK).sum + 600 * e ∧ (List.zipWith (partW (wds j)) (pf.2.take i) us).flatten.length ≤ ((pf.2.take i).map nK).sum + 65 * e))
          ⟨n9, L9, a7 - 1, [], [], 0, ((Dg.refl g10.pn g10.pl g10.l0).same (Same.new (Same.refl _) hD2)).wk (by omega), by omega, rfl, upd_same, .nil, rfl, ⟨Nat.zero_le _, Nat.zero_le _⟩⟩ (fun i sg H11 hsg p' => ?_) (fun H11 p' => ?_)
        · obtain ⟨n', L', a', zs, us, e, g11, ee, hl, cD, hpz, hsum, hsz⟩ := p'
          have h11 := g11.hi
          obtain ⟨kd, hkd, rfl⟩ : ∃ kd, pf.2[i]? = some kd ∧ ksign kd = sg := by
            have h : (pf.2.map ksign).toArray[i]? = some sg := hsg
            rw [List.getElem?_toArray, List.getElem?_map] at h
            exact Option.map_eq_some_iff.mp h
          have hi4 : i < pf.2.length := (List.getElem?_eq_some_iff.mp hkd).1
          have hD2d : D2 ≠ d := ne_of cD g11.pn.dc (by intro z; cases z)
          have hD2q : D2 ≠ q := ne_of cD g11.pl (by intro z; cases z)
          refine ⟨rfl, yes_of (iteT (call_of ⟨_, rfl, _, rfl, _, rfl, _, rfl, d, l, q, ms, n', L', a', kd, rfl, g11.pn, g11.pl, g11.l0, by omega, fun ej z => hSf ej (by rw [← z]; exact List.mem_of_getElem? hkd), fun v x n12 L12 a12 H12 c12 hr12 hb12 ec12 hz12 x12 => ?_⟩))⟩
          have cD12 := x12.kp _ _ cD hD2d hD2q
          have hlu : us.length = i := by have := Paired.length hpz; omega
          refine ⟨zs, cD12, Nat.lt_of_le_of_lt (show zs.length ≤ 4 by omega) (by decide), n12, L12, a12, zs ++ [v], us ++ [x], e + c12, ((g11.trans x12).upd g10.pn g10.pl hD2).wk (by omega), by omega, by rw [List.length_append, hl]; rfl, upd_same, ?_, ?_, ?_⟩
          · exact Paired.snoc (Paired.mapP hpz fun _ _ z => (x12.rep g11.pn g11.pl hne z).updL cD12) (hr12.updL cD12)
          · rw [take_snoc hkd, List.zipWith_append (by rw [List.length_take]; omega)]
            show sumO (_ ++ [partB (cnt j) kd x]) = _
            rw [hb12]
            exact sumO_s1 hsum
          · refine ⟨?_, ?_⟩
            · rw [take_snoc hkd, List.map_append, List.sum_append, szL_app]
              show szL us + (szD x + 0) ≤ _ + (szK kd + 0) + _
              omega
            · rw [take_snoc hkd, List.zipWith_append (by rw [List.length_take]; omega), List.flatten_append, List.length_append, List.map_append, List.sum_append]
              show _ + (partW (wds j) kd x ++ []).length ≤ _ + (nK kd + 0) + _
              rw [List.append_nil]
              omega
        · obtain ⟨n', L', a', zs, us, e, g11, ee, hl, cD, hpz, hsum, hsz⟩ := p'
          rw [ek] at hl hsum hsz g11
          rw [List.take_length] at hsum hsz
          have h11 := g11.hi
          have cu11 := g11.kp _ _ cu10 hud huq
          have hlu : us.length = pf.2.length := by have := Paired.length hpz; omega
          refine ⟨u, D2, _, zs, rfl, rfl, cu11, cD, by show 1 + zs.length ≤ sizeLine; exact Nat.le_trans (show 1 + zs.length ≤ 9 by omega) (by decide), fun pc hpc => ?_⟩
          refine .inl ⟨pc, _, rfl, SqL.of upd_same, fun tq htq => ?_⟩
          have s12 : Same H11 (L2.upd H11 pc (.lst ([V.str pf.1] ++ zs))) := Same.new (Same.refl _) hpc
          have s13 : Same (L2.upd H11 pc (.lst ([V.str pf.1] ++ zs))) (L2.upd (L2.upd H11 pc (.lst ([V.str pf.1] ++ zs))) tq (.tup ([V.str pf.1] ++ zs))) := Same.new (Same.refl _) htq
          have ct13 : (L2.upd (L2.upd H11 pc (.lst ([V.str pf.1] ++ zs))) tq (.tup ([V.str pf.1] ++ zs))) tq = some (.tup ([V.str pf.1] ++ zs)) := upd_same
          have s3 := s12.trans s13
          generalize L2.upd (L2.upd H11 pc (.lst ([V.str pf.1] ++ zs))) tq (.tup ([V.str pf.1] ++ zs)) = H13 at s3 ct13 s13 ⊢
          have cR13 := s3 _ _ (g11.kp _ _ cR10 hRd hRq)
          have cF13 := s3 _ _ (g11.kp _ _ cF10 hFd hFq)
          have cW13 := s3 _ _ (g11.kp _ _ cW10 hWd hWq)
          have hdb : deedB (cnt j) (.tuple (.str pf.1 :: us)) = some e := by
            rw [deedB, form_of pf hpf]
            show (if us.length = pf.2.length then _ else _) = _
            rw [if_pos hlu]
            exact hsum
          refine ⟨R, ys, _, rfl, rfl, cR13, hys, _, _, n', L', a', ys ++ [.ref tq], ts ++ [.tuple (.str pf.1 :: us)], c + 1 + e, c0 + e, rfl, ((((g7.trans (g10.trans g11)).same s3).upd p hq hR).wk (by omega)), by omega, upd_same, ?_, ?_, ?_, ?_, ?_, ?_, ?_⟩
          · rw [upd_ne (Ne.symm hRF)]; exact cF13
          · rw [upd_ne hDR]; exact cW13
          · exact Paired.snoc (Paired.mapP hp10 fun _ _ z => ((g11.rep g10.pn g10.pl hne z).same s3).updL cR13) ((rep_t (k := 2 * j + 2) ct13 (.cons (rep_s _) (Paired.mapP hpz fun _ _ z => z.same s3))).updL cR13)
          · rw [List.length_append]; show ys.length + 1 ≤ i + 1; omega
          · rw [List.map_append]
            show sumO (_ ++ [deedB (cnt j) (.tuple (.str pf.1 :: us))]) = _
            rw [hdb]
            exact sumO_s1 hs7
          · rw [List.length_append]; show ts.length + 1 + (c0 + e) = _; omega
          · refine ⟨?_, ?_⟩
            · rw [szL_app]
              show szL ts + (1 + (1 + pf.1.length + szL us) + 0) ≤ _
              omega
            · have ew : deedW (wds j) (.tuple (.str pf.1 :: us)) = (List.zipWith (partW (wds j)) pf.2 us).flatten := by rw [deedW, form_of pf hpf]
              rw [List.map_append, List.flatten_append, List.length_append]
              show _ + (deedW (wds j) (.tuple (.str pf.1 :: us)) ++ []).length ≤ _
              rw [List.append_nil, ew]
              omega
      · exact ⟨_, _, n7, L7, a7, ys, ts, c, c0, rfl, g7, ec, cR7, cF7, cW7, hp7, Nat.le_succ_of_le hl7, hs7, hc7, hz7⟩
    · obtain ⟨y6, y7, n7, L7, a7, ys, ts, c, c0, rfl, g7, ec, cR7, cF7, cW7, hp7, hl7, hs7, hc7, hz7⟩ := p'
      refine ⟨_, rfl, .inl ⟨R, ys, rfl, SqL.of cR7, fun tq htq => ?_⟩⟩
      have s8 : Same H7 (L2.upd H7 tq (.tup ys)) := Same.new (Same.refl _) htq
      refine kont (.ref tq) (.tuple ts) n7 L7 a7 _ c (rep_t (k := 2 * j + 3) upd_same (Paired.mapP hp7 fun _ _ z => z.same s8)) ?_ ec ⟨by rw [szD]; omega, by rw [wds]; exact hz7.2⟩ (g7.same s8)
      rw [cnt, hs7, ← hc7]; rfl
theorem ok_scripts {fP fS fF fK fD fV fW : Addr} {dP dS dF dK dD dV dW : FuncData} (FP : Fun K "_law_part" "_law_part" sPart fP dP) (mP : mg "_law_part" = some (.ref fP)) (bP : Binds K dP ["_law_held", "_law_kind", "_law_plan", "_law_within"] [])
    (FS : Fun K "_law_script" "_law_script" sScr fS dS) (mS : mg "_law_script" = some (.ref fS)) (bS : Binds K dS ["_law_held", "_law_plan", "_law_within"] [])
    (GF : FnOk P w K mg pB CX0 1 fF dF [] spForms) (mF : mg "_law_forms" = some (.ref fF)) (kF : PySem.W.keepIn K (.ref fF) = true) (bF : Binds K dF [] [])
    (GK : FnOk P w K mg pB CX0 2 fK dK ["_law_held", "_law_some"] spPick) (mK : mg "_law_pick" = some (.ref fK)) (kK : PySem.W.keepIn K (.ref fK) = true) (bK : Binds K dK ["_law_held", "_law_some"] [])
    (GD : FnOk P w K mg pB CX0 1 fD dD ["_law_held", "_law_many"] spDraw) (mD : mg "_law_draw" = some (.ref fD)) (kD : PySem.W.keepIn K (.ref fD) = true) (bD : Binds K dD ["_law_held", "_law_many"] [])
    (GV : FnOk P w K mg pB CX0 3 fV dV ["_law_held"] spWord) (mV : mg "_law_word" = some (.ref fV)) (kV : PySem.W.keepIn K (.ref fV) = true) (bV : Binds K dV ["_law_held"] [])
    (GW : FnOk P w K mg pB CX0 6 fW dW ["_law_held", "_law_within"] (spWor 2)) (mW : mg "_law_worth" = some (.ref fW)) (kW : PySem.W.keepIn K (.ref fW) = true) (bW' : Binds K dW ["_law_held", "_law_within"] [])
    (mInt : mg "int" = none) (mT : mg "tuple" = none) (mR : mg "range" = none) (mMax : mg "max" = none) : ∀ j, FnOk P w K mg pB CX0 (2 * j + 8) fS dS ["_law_held", "_law_plan", "_law_within"] (spScr j)
  | 0 => step_scr FS 0 (step_part FP 0 ok_bot mS FS.kp bS GD mD kD bD GV mV kV bV GW mW kW bW' mInt mT mR mMax) mP FP.kp bP GF mF kF bF GK mK kK bK GD mD kD bD mT mR
  | j + 1 => step_scr FS (j + 1) (step_part FP (j + 1) (ok_scripts FP mP bP FS mS bS GF mF kF bF GK mK kK bK GD mD kD bD GV mV kV bV GW mW kW bW' mInt mT mR mMax j) mS FS.kp bS GD mD kD bD GV mV kV bV GW mW kW bW' mInt mT mR mMax) mP FP.kp bP GF mF kF bF GK mK kK bK GD mD kD bD mT mR
end
end My


set_option Elab.async false
set_option linter.all false
set_option maxRecDepth 100000
set_option maxHeartbeats 4000000
namespace My
open PySem PySem.Spec PyProof.Rows L2
/-! ### sets of texts that can be walked -/
def sKey (e : Int × Value) : Str := match e.2 with | .str x _ => x | _ => Str.empty
def GoodS (P : Program) (w : World) (e : Int × Value) : Prop := ∃ x tk, e.2 = Value.str x tk ∧ e.1 = (PySem.strKind P w).hash x
/-- the set at a has just the texts of ks in it, at most n -/
def SetS (P : Program) (w : World) (h : Heap) (a : Addr) (ks : List Str) (n : Nat) : Prop :=
  ∃ o es ep t, h.get? a = some o ∧ o.ExactSet ∧ o.data = .set es ep t ∧ (∀ e ∈ es.toList, GoodS P w e) ∧ (es.toList.map sKey).Nodup ∧ (∀ k, k ∈ ks ↔ k ∈ es.toList.map sKey) ∧
    es.size < scanBound ∧ t.fits es.size = true ∧ es.size ≤ n ∧ Ris t.place.toList ∧ (w.params.followText "set-order" = true ∨ t.led = true)
section
variable {P : Program} {w : World} {A : Around} {E : Value → Shared → Prop} {s : Shared} {h h' : Heap} {a : Addr} {ks : List Str} {n : Nat}
theorem SetS.at' (R : SetS P w h a ks n) (k : ∀ o, h.get? a = some o → h'.get? a = some o) : SetS P w h' a ks n := by
  obtain ⟨o, es, ep, t, ho, r⟩ := R
  exact ⟨o, es, ep, t, k o ho, r⟩
theorem gs_elems {l : List (Int × Value)} (g : ∀ e ∈ l, GoodS P w e) : ElemsOf (PySem.strKind P w) l := fun e he => by
  obtain ⟨k, tk, h1, h2⟩ := g e he
  exact ⟨⟨k, by rw [h1]; exact strKind_is P w k tk, h2⟩, by rw [h1] <;> rfl⟩
theorem gs_is {e : Int × Value} (g : GoodS P w e) (k : Str) : (PySem.strKind P w).is k e.2 = true ↔ sKey e = k := by
  obtain ⟨k0, tk, h1, _⟩ := g
  have h2 : (PySem.strKind P w).is k (.str k0 tk) = decide (k = k0) := KeyKind.is_eq_decide (strKind_is P w k0 tk) k
  unfold sKey
  rw [h1, h2, decide_eq_true_eq]
  exact ⟨fun e => e.symm, fun e => e.symm⟩
theorem gs_mem {l : List (Int × Value)} (g : ∀ e ∈ l, GoodS P w e) (k : Str) : k ∈ l.map sKey ↔ ∃ e ∈ l, (PySem.strKind P w).is k e.2 = true :=
  ⟨fun hk => let ⟨e, he, q⟩ := List.mem_map.mp hk; ⟨e, he, (gs_is (g e he) k).2 q⟩, fun ⟨e, he, q⟩ => List.mem_map.mpr ⟨e, he, (gs_is (g e he) k).1 q⟩⟩
/-- the end of an add: what is stored, laid anew where it is too full -/
theorem sets_tail {gv : Bool → Sem Unit} (hgv : ∀ (b : Bool) (s₁ : Shared) (Q' : Unit → Shared → Prop), Q' () s₁ → wpAny (model P w) A (gv b) Q' E s₁) {o : Obj} {es : Array (Int × Value)} {ep : Nat} {t : SetTable} (ho : s.heap.get? a = some o) (hex : o.ExactSet) (hd : o.data = .set es ep t)
    {e1 : Array (Int × Value)} {t2 : SetTable} (g1 : ∀ e ∈ e1.toList, GoodS P w e) (u1 : (e1.toList.map sKey).Nodup) (m1 : ∀ k, k ∈ ks ↔ k ∈ e1.toList.map sKey) (b1 : e1.size < scanBound) (f2 : t2.fits e1.size = true) (r2 : Ris t2.place.toList) (d2 : w.params.followText "set-order" = true ∨ t2.led = true) (zn : e1.size ≤ n)
    {wd : Bool} {R : Option Bool → Shared → Prop} (hR : ∀ g, Heap.SameBut a s.heap g → SetS P w g a ks n → R (some true) { s with heap := g }) :
    wpAny (model P w) A (do
        storeSet a e1 t2
        if (!wd && t2.tooFull) = true then do
            gv (relayAll t2 e1 (SetTable.grown e1.size)).2.2
            storeSet a (relayAll t2 e1 (SetTable.grown e1.size)).1 (relayAll t2 e1 (SetTable.grown e1.size)).2.1
            pure (some true)
          else pure (some true)) R E s := by
  refine wpAny_bind (wpAny_storeSet_of ho hd ?_ (fits_of_scanBound b1))
  have at1 := store_at (es' := e1) (t' := t2) ho hd
  have sb1 := Heap.SameBut.update s.heap a (Obj.putSet e1 t2)
  split
  · have q1 := relayAll_perm t2 e1 (SetTable.grown e1.size)
    have q2 := relayAll_fits t2 e1 (SetTable.grown e1.size)
    have q3 := relayAll_ris t2 e1 (SetTable.grown e1.size)
    have q4 := relayAll_led t2 e1 (SetTable.grown e1.size)
    generalize relayAll t2 e1 (SetTable.grown e1.size) = Z at q1 q2 q3 q4 ⊢
    obtain ⟨e2, t3, gave⟩ := Z
    dsimp only at q1 q2 q3 q4 ⊢
    have hsz : e2.size = e1.size := by rw [← Array.length_toList, q1.length_eq, Array.length_toList]
    have b2 : e2.size < scanBound := by omega
    refine wpAny_bind (hgv _ _ _ (wpAny_bind (wpAny_storeSet_of at1 rfl ?_ (fits_of_scanBound b2))))
    have at2 := store_at (es' := e2) (t' := t3) at1 rfl
    exact wpAny_pure (hR _ (sb1.trans (Heap.SameBut.update _ a _)) ⟨_, e2, _, t3, at2, hex, rfl, fun e he => g1 e (q1.mem_iff.mp he), (q1.map sKey).nodup_iff.mpr u1, fun k => (m1 k).trans (q1.map sKey).mem_iff.symm, b2, q2, by omega, q3, d2.imp id fun z => by rw [q4]; exact z⟩)
  · exact wpAny_pure (hR _ sb1 ⟨_, e1, _, t2, at1, hex, rfl, g1, u1, m1, b1, f2, zn, r2, d2⟩)
theorem sets_add {x : Str} {tk : Tok} {Q : Bool → Shared → Prop} (R : SetS P w s.heap a ks n) (room : n + 1 < scanBound)
    (hQ : ∀ b g, Heap.SameBut a s.heap g → SetS P w g a (ks ++ [x]) (n + 1) → Q b { s with heap := g }) :
    wpAny (model P w) A (setAddHashed a (.str x tk) ((PySem.strKind P w).hash x)) Q E s := by
  obtain ⟨o, es, ep, t, ho, hex, hd, g, nd, hm, hb, hf, hn, hr, hl⟩ := R
  have hkey := strKind_is P w x tk
  have hel : ElemsOf (PySem.strKind P w) es.toList := gs_elems g
  have hsc : (Value.str x tk).scannable = true := rfl
  unfold setAddHashed setAddHashedIn
  refine wpAny_holding (wpAny_bind (wpAny_setState_of ho hd hf ?_))
  dsimp only
  rw [byScan_of hsc hb hel]
  simp only [↓reduceIte]
  unfold setAddByScan
  refine wpAny_bind (wpAny_bind (wpAny_rule (wpAny_bind (wpAny_setScan_of hkey ho hd hf hel ?_))))
  cases hfi : List.findIdx? (fun e => (PySem.strKind P w).is x e.2) es.toList with
  | some j =>
    dsimp only
    obtain ⟨hj, pj, _⟩ := List.findIdx?_eq_some_iff_getElem.mp hfi
    have hx : x ∈ es.toList.map sKey := (gs_mem g x).2 ⟨es.toList[j], List.getElem_mem hj, pj⟩
    refine wpAny_pure (wpAny_pure (hQ false s.heap (Heap.SameBut.refl a s.heap) ⟨o, es, ep, t, ho, hex, hd, g, nd, fun k => ?_, hb, hf, by omega, hr, hl⟩))
    rw [List.mem_append, List.mem_singleton, hm k]
    exact ⟨fun z => z.elim id fun e => e ▸ hx, .inl⟩
  | none =>
    dsimp only
    have hnx : x ∉ es.toList.map sKey := fun z => by
      obtain ⟨e, he, q⟩ := (gs_mem g x).1 z
      have c := List.findIdx?_eq_none_iff.mp hfi e he
      rw [q] at c
      cases c
    have q1 := layNew_perm t es ((PySem.strKind P w).hash x) (.str x tk)
    have q2 := layNew_fits t es ((PySem.strKind P w).hash x) (.str x tk)
    have q3 := layNew_ris t es ((PySem.strKind P w).hash x) (.str x tk) hr
    have q4 := layNew_led t es ((PySem.strKind P w).hash x) (.str x tk)
    generalize layNew t es ((PySem.strKind P w).hash x) (.str x tk) = Z at q1 q2 q3 q4 ⊢
    obtain ⟨e1, t1, wd, gave⟩ := Z
    dsimp only at q1 q2 q3 q4 ⊢
    rw [Array.toList_push] at q1
    have pc := q1.trans (List.perm_append_singleton _ _)
    have pk : (e1.toList.map sKey).Perm (x :: es.toList.map sKey) := pc.map sKey
    have g1 : ∀ e ∈ e1.toList, GoodS P w e := fun e he => (List.mem_cons.mp (pc.mem_iff.mp he)).elim (fun z => by rw [z]; exact ⟨x, tk, rfl, rfl⟩) (g e)
    have u1 : (e1.toList.map sKey).Nodup := pk.nodup_iff.mpr (List.nodup_cons.mpr ⟨hnx, nd⟩)
    have m1 : ∀ k, k ∈ ks ++ [x] ↔ k ∈ e1.toList.map sKey := fun k => by
      rw [List.mem_append, List.mem_singleton, hm k, pk.mem_iff, List.mem_cons]
      exact Or.comm
    have z1 : e1.size = es.size + 1 := by rw [← Array.length_toList, pc.length_eq, List.length_cons, Array.length_toList]
    have d1 : w.params.followText "set-order" = true ∨ t1.led = true := hl.imp id fun z => by rw [q4]; exact z
    refine wpAny_bind ?_
    have gw : ∀ (b : Bool) {s₁ : Shared} {Q' : Unit → Shared → Prop}, Q' () s₁ → wpAny (model P w) A (match b with | true => rule "set.scan.the-table-gave-way" | false => pure ()) Q' E s₁ := fun b s₁ Q' q => by
      cases b
      · exact wpAny_pure q
      · exact wpAny_rule q
    refine gw _ ?_
    split
    · refine wpAny_bind ?_
      rw [hashByValue_scannable 8 hsc]
      refine wpAny_pure (sets_tail (n := n + 1) ?_ ho hex hd g1 u1 m1 (by omega) ?_ ?_ ?_ (by omega) ?_)
      · intro b s₁ Q' q
        cases b <;> first | exact wpAny_pure q | exact wpAny_rule q
      · first | (split <;> first | exact q2 | exact SetTable.fits_plain_off q2) | exact q2
      · first | (split <;> exact q3) | exact q3
      · first | (split <;> exact d1) | exact d1
      · intro g' sb r
        dsimp only
        exact wpAny_pure (hQ true g' sb r)
    · refine wpAny_bind (wpAny_pure ?_)
      simp only [↓reduceIte]
      refine sets_tail (n := n + 1) ?_ ho hex hd g1 u1 m1 (by omega) q2 q3 d1 (by omega) ?_
      · intro b s₁ Q' q
        cases b <;> first | exact wpAny_pure q | exact wpAny_rule q
      · intro g' sb r
        dsimp only
        exact wpAny_pure (hQ true g' sb r)
end
end My

set_option Elab.async false
set_option linter.all false
set_option maxRecDepth 100000
set_option maxHeartbeats 4000000
namespace My
open PySem PySem.Spec PyProof.Rows L2
abbrev setNew (w : World) : Obj := { cls := .type "set", dict := none, data := .set #[] 0 (.fresh 0 0 (!w.params.followText "set-order")) }
theorem sets_none {P : Program} {w : World} {h : Heap} {a : Addr} (ho : h.get? a = some (setNew w)) : SetS P w h a [] 0 := by
  refine ⟨_, #[], 0, _, ho, ⟨rfl, rfl, rfl⟩, rfl, fun e he => ?_, ?_, fun k => ?_, by decide, rfl, Nat.le_refl _, List.Pairwise.nil, ?_⟩
  · simp at he
  · simp
  · simp
  · show _ ∨ (!w.params.followText "set-order") = true
    cases w.params.followText "set-order"
    · exact .inr rfl
    · exact .inl rfl
theorem strsAt : ∀ {us : List Value} {xs : List Str} {i : Nat} {v : Value}, StrsAre us xs → us[i]? = some v → ∃ x t, xs[i]? = some x ∧ v = .str x t
  | _, _, _, _, .nil, e => by simp at e
  | _, _, 0, _, .cons n t r, e => ⟨n, t, rfl, by simpa using e.symm⟩
  | _, _, i + 1, _, .cons n t r, e => by
    obtain ⟨x, t', h1, h2⟩ := strsAt (i := i) r (by simpa using e)
    exact ⟨x, t', by simpa using h1, h2⟩
section
variable {P : Program} {w : World} {A : Around} {E : Value → Shared → Prop} {s : Shared}
/-- all items of a walk are put in -/
theorem sets_fill {I : Addr} {fp wr : List Addr} {G : Array GenState → Array GenState → Prop} {n : Nat} {Pv : Nat → Value → Prop} {St : Nat → Shared → Prop} {R : Result → Shared → Prop} (W : WalksS P w A.in1 I fp wr G n Pv St) (S : Addr) (hSf : S ∉ fp)
    (xs : List Str) (hn : n = xs.length) (hb : xs.length + 1 < scanBound) (hval : ∀ i v, Pv i v → ∃ x t, xs[i]? = some x ∧ v = .str x t) :
    ∀ (k i : Nat) (s : Shared), n - i = k → i ≤ n → St i s → SetS P w s.heap S (xs.take i) i → (∀ s', Moved (S :: wr) G s s' → SetS P w s'.heap S xs n → R (.ok (.ret .none)) s') → codeAny (model P w) A (.builtin "set.update.loop" ⟨[.ref S, .ref I], []⟩) R s := by
  have nw : S ∉ wr := fun z => hSf (W.sub _ z)
  have more : ∀ b ∈ wr, b ∈ S :: wr := fun b z => List.mem_cons_of_mem _ z
  intro k
  induction k with
  | zero =>
    intro i s hk hi st hS hR
    have e : i = n := by omega
    subst e
    refine codeAny_builtin F.entry_set_update_loop ?_
    rw [Around.under_plainId F.plain_set_update_loop _]
    show wpAny _ A.in1 (pyNext (.ref I) >>= fun _ => _) _ _ s
    refine wpAny_bind (W.done s _ _ st fun s' mv => wpAny_pure (hR s' (mv.mono more) ?_))
    rw [List.take_of_length_le (by omega)] at hS
    exact hS.at' fun o q => mv.heap S o nw q
  | succ k ih =>
    intro i s hk hi st hS hR
    have lt : i < n := by omega
    refine codeAny_builtin F.entry_set_update_loop ?_
    rw [Around.under_plainId F.plain_set_update_loop _]
    show wpAny _ A.in1 (pyNext (.ref I) >>= fun _ => _) _ _ s
    refine wpAny_bind (W.item i s _ _ lt st fun v s' hP st' mv => ?_)
    obtain ⟨x, t, hx, rfl⟩ := hval i v hP
    show wpAny _ A.in1 (holding [Value.str x t] (setAdd S (.str x t)) >>= fun _ => _) _ _ s'
    refine wpAny_bind (wpAny_holding ?_)
    unfold setAdd
    refine wpAny_holding (wpAny_bind ((PySem.strKind P w).pyHash (k := x) (strKind_is _ _ _ _) ?_))
    refine sets_add (s := { s' with toks := s'.toks + 1 }) (hS.at' fun o q => mv.heap S o nw q) (by omega) fun b g sb hS2 => ?_
    have sb : Heap.SameBut S s'.heap g := sb
    have hS3 : SetS P w g S (xs.take (i + 1)) (i + 1) := by
      rw [List.take_add_one, hx]; exact hS2
    refine wpAny_pure ⟨plainId_quiet F.plain_set_update_loop _, ih (i + 1) _ (by omega) lt (W.frame _ s' _ _ st' (Nat.le_succ _) fun b hbm o q => ?_) hS3 fun s2 mv2 hS4 => ?_⟩
    · rw [sb.2 b (fun z => hSf (z ▸ hbm))]; exact q
    · refine hR s2 (Moved.trans W.gtrans ((mv.mono more).then_heap (Nat.le_succ _) fun b o hbm q => ?_) mv2) hS4
      rw [sb.2 b (fun z => hbm (z ▸ List.mem_cons_self))]; exact q
set_option maxHeartbeats 3200000 in
theorem call_setS {l : Addr} {items : Array Value} (xs : List Str) {Q : Value → Shared → Prop} (hh : A.handled = none) (hl : s.heap.IsList l items) (hit : StrsAre items.toList xs) (hb : xs.length + 1 < scanBound)
    (k : ∀ (g : Heap) (tk : Nat), SetS P w g s.heap.objs.size xs xs.length → (∀ b o, s.heap.get? b = some o → g.get? b = some o) → Q (.ref s.heap.objs.size) { s with heap := g, toks := tk }) : wpAny (model P w) A (call (.type "set") [.ref l]) Q E s := by
  have hz : items.size = xs.length := by
    have q := StrsAre.len_eq hit
    rw [Array.length_toList] at q
    exact q
  obtain ⟨c, tl, hmro⟩ := F.called_set.mro
  have hmade := F.called_set.made
  have hsub := F.called_set.sub
  refine wpAny_call (codeAny_of_tree ?_)
  show wpAny _ _ (callAny (.type "set") _) _ _ _
  refine wpAny_pure ⟨Code.quiet_builtin _ (by decide +kernel), codeAny_builtin F.entry_type_call ?_⟩
  rw [Around.under_plain (weight_type_call_type "set" [.ref l] []) rfl]
  have w1 := F.called_set.notType
  have w2 := F.called_set.canCreate
  have w3 := F.typeCall_set_1 (.ref l)
  repeat (any_goals (first | assumption | wp_step))
  refine codeAny_mono (code_set_led1 (.ref l) (E := E) (Q₁ := fun obj s1 => obj = .ref s.heap.objs.size ∧ s1 = { s with heap := s.heap.push (setNew w) }) ⟨rfl, rfl⟩) fun r s1 hr => ?_
  cases r with
  | error e => exact hr
  | ok fl =>
    cases fl with
    | ret obj =>
      obtain ⟨rfl, rfl⟩ := hr
      have hS : (s.heap.push (setNew w)).get? s.heap.objs.size = some (setNew w) := Heap.get?_push_size _ rfl
      have hT : Shared.TypeIs { s with heap := s.heap.push (setNew w) } (.ref s.heap.objs.size) "set" := ⟨_, hS, rfl⟩
      have w4 := F.called_set.init.lookup
      have w5 := F.called_set.init.bind (.ref s.heap.objs.size)
      repeat (any_goals (first | assumption | wp_step))
      refine codeAny_mono (codeAny_call_builtin (R := wants (fun r s2 => r = .none ∧ ∃ g tk, s2 = { s with heap := g, toks := tk } ∧ SetS P w g s.heap.objs.size xs xs.length ∧ (∀ b o, s.heap.get? b = some o → g.get? b = some o)) E) F.called_set.init.plain F.entry_set_init (check_set_init_1 hT ?_)) fun r2 s2 hr2 => ?_
      · obtain ⟨ol, hol, hcl, nl, hdl⟩ := hl
        obtain ⟨ocls, odict, odata, oslots⟩ := ol
        simp only at hcl hdl
        subst hcl hdl
        have hol' : (s.heap.push (setNew w)).get? l = some { cls := .type "list", dict := odict, data := .seq items nl, slots := oslots } := Heap.get?_push_of_some _ hol
        have w6 := F.sub_list_set
        have w7 := F.sub_list_frozenset
        have w8 : (Value.type "list" == Value.type "dict") = false := by decide
        have hl1 : (s.heap.push (setNew w)).IsList l items := ⟨_, hol', rfl, nl, rfl⟩
        unfold Builtin.«set.__init__» noKeywords Builtin.Frozenset.updateFrom
        generalize hPI : pyIter = PI
        wp_walk
        subst hPI
        refine wpAny_pyIter_list hl1 (wpAny_bind (wpAny_runValue ?_))
        have lS : l < s.heap.objs.size := Heap.lt_size hol
        have h3 : A.in1.in1.in1.handled = none := by simp [hh]
        have sz : (s.heap.push (setNew w)).objs.size = s.heap.objs.size + 1 := Heap.size_push ..
        have ne1 : l ≠ (s.heap.push (setNew w)).objs.size := by rw [sz]; exact Nat.ne_of_lt (Nat.lt_succ_of_lt lS)
        have nf : s.heap.objs.size ∉ [(s.heap.push (setNew w)).objs.size, l] := by
          rw [sz]
          intro z
          rcases List.mem_cons.mp z with z | z
          · exact Nat.succ_ne_self _ z.symm
          · exact Nat.ne_of_gt lS (List.mem_singleton.mp z)
        have hval : ∀ (i : Nat) (v : Value), items[i]? = some v → ∃ x t, xs[i]? = some x ∧ v = .str x t := fun i v hv =>
          strsAt hit (by rw [Array.getElem?_toList]; exact hv)
        refine sets_fill ((Walks.list h3 _ l ne1 items).toS) s.heap.objs.size nf xs hz hb hval (items.size - 0) 0 _ (by omega) (Nat.zero_le _) ⟨⟨_, Heap.get?_push_size _ rfl, rfl, rfl⟩, hl1.push _⟩ ?hS0 ?hR
        case hS0 => exact sets_none (Heap.get?_push_of_some _ hS)
        case hR =>
          rintro ⟨g, ge, dr, tk, oo⟩ mv hS'
          have eg : ge = s.gens := mv.gens
          have ed : dr = s.drawn := mv.drawn
          have eo : oo = s.os := mv.os
          subst eg ed eo
          show wpAny _ _ _ _ _ _
          refine wpAny_pure ?_
          show wpAny _ _ (ret Value.none) _ _ _
          rw [hz] at hS'
          refine wpAny_pure ⟨rfl, g, tk, rfl, hS', fun b o e => ?_⟩
          have lb : b < s.heap.objs.size := Heap.lt_size e
          refine mv.heap b o (fun z => ?_) (Heap.get?_push_of_some _ (Heap.get?_push_of_some _ e))
          rcases List.mem_cons.mp z with z | z
          · exact Nat.ne_of_lt lb z
          · have e2 : b = s.heap.objs.size + 1 := by rw [← sz]; exact List.mem_singleton.mp z
            exact Nat.lt_irrefl _ (Nat.lt_trans (Nat.lt_succ_self _) (e2 ▸ lb))
      · cases r2 with
        | error e => exact hr2
        | ok fl2 =>
          cases fl2 with
          | ret r =>
            obtain ⟨rfl, g, tk, rfl, hS', hk'⟩ := hr2
            repeat (any_goals (first | assumption | wp_step))
            exact k _ _ hS' hk'
          | _ => exact hr2.elim
    | _ => exact hr.elim
end
end My

set_option Elab.async false
set_option linter.all false
set_option maxRecDepth 100000
set_option maxHeartbeats 4000000
namespace My
open PySem PySem.Spec PyProof.Rows L2
/-! ### texts in order, once each: there is one such list -/
abbrev leS (x y : Str) : Prop := ¬ y.cps.toList < x.cps.toList
theorem leS_trans {x y z : Str} (h1 : leS x y) (h2 : leS y z) : leS x z := List.not_lt.mpr (List.le_trans (List.not_lt.mp h1) (List.not_lt.mp h2))
theorem str_ext {x y : Str} (h : x.cps.toList = y.cps.toList) : x = y := by
  cases x; cases y
  exact congrArg Str.mk (Array.toList_inj.mp h)
theorem rising_pw : ∀ (r : List Str) (p : Str), risingS p r = true → (p :: r).Pairwise leS
  | [], p, _ => List.pairwise_singleton _ _
  | x :: r, p, h => by
    rw [risingS, Bool.and_eq_true] at h
    have hx : leS p x := by
      have h1 := h.1
      rw [ltCps_eq, Bool.not_eq_true', decide_eq_false_iff_not] at h1
      exact h1
    have ih := rising_pw r x h.2
    refine List.pairwise_cons.mpr ⟨fun y hy => ?_, ih⟩
    rcases List.mem_cons.mp hy with rfl | hy
    · exact hx
    · exact leS_trans hx ((List.pairwise_cons.mp ih).1 y hy)
theorem sorted_pw {l : List Str} (h : sortedS l = true) : l.Pairwise leS := by
  cases l with
  | nil => exact .nil
  | cons x r => exact rising_pw r x h
theorem one_sorted {l m : List Str} (h1 : sortedS l = true) (h2 : sortedS m = true) (n1 : l.Nodup) (n2 : m.Nodup) (hm : ∀ k, k ∈ l ↔ k ∈ m) : l = m := by
  refine List.Perm.eq_of_pairwise (le := leS) (fun a b _ _ x y => str_ext ?_) (sorted_pw h1) (sorted_pw h2) ((List.perm_ext_iff_of_nodup n1 n2).mpr hm)
  exact List.le_antisymm (List.not_lt.mp x) (List.not_lt.mp y)
section
variable {P : Program} {w : World} {A : Around} {E : Value → Shared → Prop} {s : Shared}
theorem strs_made : ∀ (l : List Value), (∀ v ∈ l, ∃ x tk, v = Value.str x tk) → StrsAre l (l.map fun v => sKey (0, v))
  | [], _ => .nil
  | v :: l, h => by
    obtain ⟨x, tk, rfl⟩ := h v (List.mem_cons_self ..)
    exact .cons x tk (strs_made l fun u hu => h u (List.mem_cons_of_mem _ hu))
theorem sorted_sets {a : Addr} {ks : List Str} {n : Nat} {Q : Value → Shared → Prop} (R : SetS P w s.heap a ks n) (hh : A.handled = none)
    (hQ : ∀ s' p (out : Array Value) (c : Nat) (ss : List Str), (∀ b o, s.heap.get? b = some o → s'.heap.get? b = some o) → s'.gens = s.gens → s'.os = s.os → s.heap.objs.size ≤ p → s'.heap.get? p = some (seqObj "list" out c) → StrsAre out.toList ss → sortedS ss = true → ss.Nodup → (∀ k, k ∈ ss ↔ k ∈ ks) → ss.length ≤ n → Q (.ref p) s') :
    wpAny (model P w) A (call (.builtin "sorted") [.ref a]) Q E s := by
  obtain ⟨o, es, ep, t, ho, hex, hd, g, nd, hm, hb, hf, hn, hr, hl⟩ := R
  refine Calls.call_function_entry kind_sorted plain_sorted entry_sorted (args_sorted1 _) ?_
  unfold Builtin.«sorted»
  refine wpAny_bind (m := checkCount "sorted" 1 1 _) (wpAny_pure (wpAny_bind (collect_set (A := A.in1) hh ⟨o, ho, hex.1, hd⟩ hf hb hr hl fun s1 vs k1 hz g1 o1 pm => ?_)))
  have vl : vs.length = es.size := by rw [pm.length_eq, List.length_map, Array.length_toList]
  have vz : vs.length ≤ sizeLine := by rw [vl]; exact fits_of_scanBound hb
  have hS : StrsAre vs (vs.map fun v => sKey (0, v)) := strs_made vs fun v hv => by
    obtain ⟨e, he, q⟩ := List.mem_map.mp (pm.mem_iff.mp hv)
    obtain ⟨x, tk, h1, _⟩ := g e he
    exact ⟨x, tk, by rw [← q]; exact h1⟩
  have pk : (vs.map fun v => sKey (0, v)).Perm (es.toList.map sKey) := by
    have q := pm.map fun v => sKey (0, v)
    rw [List.map_map] at q
    exact q
  refine wpAny_bind (wpAny_newList ?_ vz)
  have at1 : (s1.heap.push (seqObj "list" vs.toArray 0)).get? s1.heap.objs.size = some (seqObj "list" vs.toArray 0) := Heap.get?_push_size _ rfl
  refine wpAny_bind (wpAny_holding (wpAny_call_entry slot_list_sort ⟨_, at1, rfl⟩ entry_list_sort (list_sort_treeKAny strKind_oneLt at1 hS.keysOf (fun v₁ v₂ rest e => keyKind_strs (by rw [← e]; exact hS)) vz fun st' a1 a2 => ⟨_, rfl, ?_⟩) (args_list_sort _)))
  obtain ⟨ss, b1, b2, b3⟩ := sorted_out_str hS a1 a2
  obtain ⟨c, hc⟩ := sortedHeap_at (vs := vs) (out := (arrOf st').map (·.2)) at1
  have pn := b2.trans pk
  refine wpAny_pure ⟨_, rfl, hQ _ s1.heap.objs.size _ c ss (fun b u e => ?_) g1 o1 hz hc b1 b3 (pn.nodup_iff.mpr nd) (fun k => by rw [pn.mem_iff, hm k]) ?_⟩
  · have q := k1 b u e
    have lt := Heap.lt_size q
    show (sortedHeap (s1.heap.push (seqObj "list" vs.toArray 0)) s1.heap.objs.size vs ((arrOf st').map (·.2))).get? b = some u
    rw [sortedHeap_old (Nat.ne_of_lt lt) (by rw [size_push']; exact Nat.lt_succ_of_lt lt)]
    exact Heap.get?_push_of_some _ q
  · rw [pn.length_eq, List.length_map, Array.length_toList]; exact hn
end
/-! ### sorted(set(xs)), a list of texts -/
def tSortSet (K : PySem.W.Frag) (te : TE) : TE := fun σ H Q => te σ H fun v H1 => ∃ (l : Addr) (xs : List Str), v = .ref l ∧ SqL K H1 l (xs.map V.str) ∧ xs.length + 1 < scanBound ∧
  ∀ (ss : List Str) (p : Addr), sortedS ss = true → ss.Nodup → (∀ k, k ∈ ss ↔ k ∈ xs) → ss.length ≤ xs.length → H1 p = none → Q (.ref p) (L2.upd H1 p (.lst (ss.map V.str)))
theorem vals_strs : ∀ {us : List Value} {xs : List Str}, Vals (xs.map V.str) us → StrsAre us xs
  | _, [], .nil => .nil
  | _, x :: xs, .cons r t => by
    obtain ⟨tk, rfl⟩ := r
    exact .cons x tk (vals_strs t)
theorem strs_vals : ∀ {us : List Value} {xs : List Str}, StrsAre us xs → Vals (xs.map V.str) us
  | _, _, .nil => .nil
  | _, _, .cons x t r => .cons ⟨t, rfl⟩ (strs_vals r)
theorem pe_sortSet {X : Cx} {e : Expr} {te : TE} {p p2 pos pos2 : Pos} (hc : X.calm = true) (hg : Gl X "sorted") (hm : X.mg "sorted" = none) (hg2 : Gl X "set") (hm2 : X.mg "set" = none) (he : PE X e te)
    (hv : bootBuiltins "sorted" = some (.builtin "sorted") := by decide +kernel) (hv2 : bootBuiltins "set" = some (.type "set") := by decide +kernel)
    (hs1 : starEach [.Call (.Name "set" p2) [e] [] pos2] X.env = (false, eval (.Call (.Name "set" p2) [e] [] pos2) X.env) :: starEach [] X.env := by rfl)
    (hs : starEach [e] X.env = (false, eval e X.env) :: starEach [] X.env := by rfl) :
    PE X (.Call (.Name "sorted" p) [.Call (.Name "set" p2) [e] [] pos2] [] pos) (tSortSet X.K te) := by
  refine ⟨fun pins s σ H Q I h => ?_⟩
  refine Call_ (ld_blt I hg hm hv (PyProof.Rows.callWith_builtin1 (args_cons ?_ hs1) hs1 rfl))
  refine Call_ (ld_blt I hg2 hm2 hv2 (PyProof.Rows.callWith_type1 (one_arg he I h (fun u s1 x H1 I1 r1 q1 => ?_) hs) hs rfl))
  obtain ⟨l, xs, ex, hx, hb, q⟩ := q1
  subst ex
  cases r1
  obtain ⟨its, rv, p1, _⟩ := I1.list hx
  refine call_setS xs (I1.ok.hd hc) p1.isList (by simpa using vals_strs rv) hb fun g tk hS kg => args_nil ?_
  have I2 : Inv X pins σ H1 { s1 with heap := g, toks := tk } := I1.kept (t' := tk) kg
  refine sorted_sets (s := { s1 with heap := g, toks := tk }) hS (I1.ok.hd hc) fun s' p out c ss k g1 o hp hg3 hi h1 h2 h3 h4 => ?_
  have hlen : (ss.map V.str).length ≤ sizeLine := by
    rw [List.length_map]
    exact Nat.le_trans h4 (fits_of_scanBound (by omega))
  have hn : H1 p = none := I2.hok.fresh hp
  have J := Inv.call' (s := { s1 with heap := g, toks := tk }) (s' := s') (ch := []) I2 o (Un.laid k hp hn) (I2.hok.laid (o := .lst (ss.map V.str)) k hp ⟨hlen, out.toList, c, strs_vals hi, hg3⟩) (by rw [g1]; exact I2.bare) (fun _ z => nomatch z)
  exact ⟨.ref p, _, J, rfl, q ss p h1 h2 h3 h4 hn⟩
end My

set_option Elab.async false
set_option linter.all false
set_option maxRecDepth 100000
set_option maxHeartbeats 4000000
namespace My
open PySem L2
/-! ### words, of k63: the program's own -/
mutual
theorem txD_le : ∀ d : PyData, (txD d).length ≤ szD d
  | .tuple ds => by have := txL_le ds; rw [txD, szD]; omega
  | .str x => by rw [txD, szD]; show 1 ≤ _; omega
  | .none => Nat.zero_le _
  | .bool _ => Nat.zero_le _
  | .int _ => Nat.zero_le _
  | .list _ => Nat.zero_le _
  | .dict _ => Nat.zero_le _
theorem txL_le : ∀ ds : List PyData, (txL ds).length ≤ szL ds
  | [] => Nat.zero_le _
  | d :: ds => by
    have h1 := txD_le d
    have h2 := txL_le ds
    rw [txL, szL, List.length_append]; omega
end
theorem szL_take (ds : List PyData) (i : Nat) : szL (ds.take i) ≤ szL ds := by
  have := szL_td ds i; omega
theorem btw_isW {lo hi : Int} {d : PyData} {n : Nat} (h : btw lo hi d = true) (h1 : -1000000000 ≤ lo) (h2 : hi ≤ 1000000000) : isW n d = true := by
  cases d with
  | int i =>
    rw [btw, Bool.and_eq_true] at h
    have a := of_decide_eq_true h.1
    have b := of_decide_eq_true h.2
    rw [isW_leaf (by intro ds z; cases z)]
    exact decide_eq_true ⟨by omega, by omega⟩
  | _ => cases h
theorem wd_isW {d : PyData} {n : Nat} (h : wdD d = true) : isW n d = true := by
  cases d with
  | str x => rw [isW_leaf (by intro ds z; cases z)]; exact h
  | _ => cases h
theorem part_isW {k : Kd} {d : PyData} (h : partOk k d = true) : isW 4 d = true := by
  cases k with
  | w => exact wd_isW h
  | k => exact btw_isW h (by decide) (by decide)
  | r => exact btw_isW h (by decide) (by decide)
  | e => exact btw_isW h (by decide) (by decide)
  | i =>
    have h : (isNon d || btw 0 1000 d) = true := h
    rcases Bool.or_eq_true _ _ ▸ h with h | h
    · cases d <;> first | rfl | cases h
    · exact btw_isW h (by decide) (by decide)
  | v => exact h
  | n =>
    cases d with
    | tuple ds =>
      have h : (decide (ds.length ≤ 8) && ds.all wdD) = true := h
      rw [Bool.and_eq_true, List.all_eq_true] at h
      have := of_decide_eq_true h.1
      rw [isW, Bool.and_eq_true, List.all_eq_true]
      exact ⟨decide_eq_true (by omega), fun x hx => wd_isW (h.2 x hx)⟩
    | _ => cases h
  | S => cases h
  | s => cases h
section
variable {P : Program} {w : World} {K : PySem.W.Frag} {mg : Str → Option Value} {pB : Heap}
def spTx (n : Nat) : Sp := fun vs H Q _ => ∃ (m : Nat) (v : V) (d : PyData), vs = [v] ∧ Rep H m v d ∧ isW n d = true ∧ szD d ≤ 1000000 ∧ ∀ (p : Addr) (H' : Hp), Same H H' → H p = none → H' p = some (.lst ((txD d).map V.str)) → Q (.ref p) H'
def spPrevT : Nat → Sp
  | 0 => spBot
  | n + 1 => spTx n
theorem lst_len {xs : List Str} (h : xs.length ≤ 1000000) : (xs.map V.str).length ≤ sizeLine := by
  rw [List.length_map]; exact Nat.le_trans h (by decide)
abbrev sWoW : Stmt := top 8
theorem scWoW : FnScope ["worth", "words", "part"] ["worth"] (defScope sWoW) := ⟨rfl, rfl, rfl, by decide +kernel, rfl, by decide +kernel, by decide +kernel⟩
theorem step_wow {f : Addr} {fd : FuncData} (F : Fun K "words_of_worth" "words_of_worth" sWoW f fd) (n : Nat) (G : FnOk P w K mg pB CX0 (n + 1) f fd ["worth"] (spPrevT n)) (mG : mg "words_of_worth" = some (.ref f)) (bG : Binds K fd ["worth"] [])
    (mI : mg "isinstance" = none) (mS : mg "str" = none) (mT : mg "tuple" = none) : FnOk P w K mg pB CX0 (n + 2) f fd ["worth"] (spTx n) := by
  refine F.ok scWoW (fun vs H Q E h => ?_) (fun cdv A outer s H vs Q E hr h => ?_)
  · obtain ⟨m, v, d, rfl, _⟩ := h
    rfl
  · obtain ⟨m, v, d, rfl, hR, hw, hz, k⟩ := h
    have nd := scWoW.nd
    refine ⟨_, pss_cons (ps_if (pt_val (pe_callB call_isi (by rfl) mI (by decide +kernel) (pa_cons (pv 0) (pa_cons (pe_bltn (by rfl) mS (by decide +kernel) (show RelV (.ty "str") (.type "str") from rfl)) pa_nil)))) (pss_one (ps_ret (pe_lst (pa_cons (pv 0) pa_nil)))) pss_nil)
      (pss_cons (ps_set (i := 1) nd rfl (Or.inl rfl) (pe_lst pa_nil))
      (pss_cons (ps_if (pt_val (pe_callB call_isi (by rfl) mI (by decide +kernel) (pa_cons (pv 0) (pa_cons (pe_bltn (by rfl) mT (by decide +kernel) (show RelV (.ty "tuple") (.type "tuple") from rfl)) pa_nil))))
        (pss_one (ps_for PassesOwn.never rfl (pi_tup (pv 0)) (pg_name (i := 2) nd rfl (Or.inl rfl))
          (pss_one (ps_expr (pe_bm PySem.F.plainAttrs_list PySem.F.slot_list_extend PySem.F.type_list_extend mt_extend (pv 1) (pa_cons (pe_call G hr rfl mG F.kp bG .nil pass0 (pa_cons (pv 2) pa_nil)) pa_nil)))))) pss_nil)
      (pss_one (ps_ret (pv 1))))), ?_⟩
    refine rd_isi (.inl rfl) rfl hR ⟨_, rfl, ?_⟩
    by_cases hst : ∃ x, d = .str x
    · obtain ⟨x, rfl⟩ := hst
      cases rep_str hR
      refine iteB1 rfl ?_
      exact ⟨_, rfl, by show 1 ≤ sizeLine; decide, fun p hp => k p _ (Same.new (Same.refl _) hp) hp upd_same⟩
    refine iteB0 (by cases d <;> first | rfl | exact absurd ⟨_, rfl⟩ hst) ?_
    refine nxt_of (asg_n (lst_of ⟨Nat.zero_le _, fun p hp => ?_⟩))
    have s1 : Same H (L2.upd H p (.lst [])) := Same.new (Same.refl _) hp
    refine rd_isi (.inr (.inr (.inr rfl))) rfl (hR.same s1) ⟨_, rfl, ?_⟩
    rcases @notTup d with ⟨ds, rfl⟩ | hn
    · refine iteB1 rfl ?_
      obtain ⟨m', a, xs, rfl, rfl, ha, hp2⟩ := rep_tup hR
      obtain ⟨n', rfl, _, hws⟩ := isW_tup hw
      have hlen := Paired.length hp2
      have hzs : szL ds ≤ 1000000 := by rw [szD] at hz; omega
      refine ⟨_, rfl, a, rfl, ⟨_, SqT.of (s1 _ _ ha)⟩, for_tup (xs := xs) (fun j σ H3 => ∃ (x2 : Option V), σ = [some (.ref a), some (.ref p), x2] ∧ Same H H3 ∧ H3 p = some (.lst ((txL (ds.take j)).map V.str))) ⟨none, rfl, s1, upd_same⟩ ?_ ?_ ?_⟩
      · rintro j σ H3 _ ⟨x2, rfl, s3, _⟩
        exact SqT.of (s3 _ _ ha)
      · rintro j y σ H3 hy ⟨x2, rfl, s3, c3⟩
        obtain ⟨e, he, hre⟩ := Paired.at hp2 hy
        have hsz : szD e ≤ 1000000 := Nat.le_trans (szL_get he) hzs
        refine ⟨_, rfl, .inl ⟨rfl, _, SqL.of c3⟩, ?_⟩
        refine call_of ⟨_, rfl, m', y, e, rfl, hre.same s3, hws e (List.mem_of_getElem? he), hsz, fun q H4 s4 hq c4 => ?_⟩
        have b1 : txL (ds.take (j + 1)) = txL (ds.take j) ++ txD e := by
          rw [take_snoc he, txL_app, txL, txL, List.append_nil]
        have b2 := txL_le (ds.take (j + 1))
        have b3 := szL_take ds (j + 1)
        rw [b1, List.length_append] at b2
        refine ⟨p, q, _, _, rfl, rfl, s4 _ _ c3, c4, by rw [List.length_map, List.length_map]; exact Nat.le_trans (show _ ≤ 1000000 by omega) (by decide), _, rfl, fun b o eb => ?_, ?_⟩
        · rw [upd_ne (ne_of_none eb hp)]; exact s4 _ _ (s3 _ _ eb)
        · rw [upd_same, b1, List.map_append]
      · rintro σ H3 ⟨x2, rfl, s3, c3⟩
        rw [hlen, List.take_length] at c3
        exact ⟨_, rfl, k p H3 s3 hp c3⟩
    · refine iteB0 (by cases d <;> first | rfl | exact absurd rfl (hn _)) ?_
      refine ⟨_, rfl, k p _ s1 hp ?_⟩
      have e : txD d = [] := by cases d <;> first | rfl | exact absurd rfl (hn _) | exact absurd ⟨_, rfl⟩ hst
      rw [e]
      exact upd_same
theorem ok_wow {f : Addr} {fd : FuncData} (F : Fun K "words_of_worth" "words_of_worth" sWoW f fd) (mG : mg "words_of_worth" = some (.ref f)) (bG : Binds K fd ["worth"] [])
    (mI : mg "isinstance" = none) (mS : mg "str" = none) (mT : mg "tuple" = none) : ∀ n, FnOk P w K mg pB CX0 (n + 2) f fd ["worth"] (spTx n)
  | 0 => step_wow F 0 ok_bot mG bG mI mS mT
  | n + 1 => step_wow F (n + 1) (ok_wow F mG bG mI mS mT n) mG bG mI mS mT
end
end My

set_option Elab.async false
set_option linter.all false
set_option maxRecDepth 100000
set_option maxHeartbeats 4000000
namespace My
open PySem L2
/-! ### the scripts in a deed -/
def scrL (ks : List Kd) (ps : List PyData) : List PyData := ((ks.zip ps).filter fun p => isScr p.1 && !isNon p.2).map (·.2)
theorem scrL_cons (k : Kd) (p : PyData) (ks : List Kd) (ps : List PyData) : scrL (k :: ks) (p :: ps) = (if (isScr k && !isNon p) = true then [p] else []) ++ scrL ks ps := by
  unfold scrL
  rw [List.zip_cons_cons, List.filter_cons]
  by_cases h : (isScr k && !isNon p) = true
  · rw [if_pos h, if_pos h]; rfl
  · rw [if_neg h, if_neg h]; rfl
theorem scrL_snoc {ks : List Kd} {ps : List PyData} {i : Nat} {k : Kd} {p : PyData} (hk : ks[i]? = some k) (hp : ps[i]? = some p) : scrL (ks.take (i + 1)) (ps.take (i + 1)) = scrL (ks.take i) (ps.take i) ++ (if (isScr k && !isNon p) = true then [p] else []) := by
  have h1 := (List.getElem?_eq_some_iff.mp hk).1
  have h2 := (List.getElem?_eq_some_iff.mp hp).1
  unfold scrL
  rw [take_snoc hk, take_snoc hp, List.zip_append (by rw [List.length_take, List.length_take]; omega), List.filter_append, List.map_append]
  congr 1
  show List.map _ (List.filter _ [(k, p)]) = _
  rw [List.filter_cons]
  by_cases h : (isScr k && !isNon p) = true
  · rw [if_pos h, if_pos h]; rfl
  · rw [if_neg h, if_neg h]; rfl
theorem scrL_sz : ∀ (ks : List Kd) (ps : List PyData), szL (scrL ks ps) ≤ szL ps
  | [], ps => by show szL [] ≤ _; rw [szL]; exact Nat.zero_le _
  | k :: ks, [] => Nat.le_refl _
  | k :: ks, p :: ps => by
    have ih := scrL_sz ks ps
    rw [scrL_cons, szL_app, szL]
    have : szL (if (isScr k && !isNon p) = true then [p] else []) ≤ szD p := by
      by_cases h : (isScr k && !isNon p) = true
      · rw [if_pos h, szL, szL]; omega
      · rw [if_neg h, szL]; exact Nat.zero_le _
    omega
theorem sumO_some : ∀ {l : List (Option Nat)} {b : Nat}, sumO l = some b → ∃ cs : List Nat, l = cs.map some ∧ cs.sum = b
  | [], b, h => ⟨[], rfl, by cases h; rfl⟩
  | none :: l, b, h => by cases h
  | some a :: l, b, h => by
    obtain ⟨c, hc, rfl⟩ := Option.map_eq_some_iff.mp (show (sumO l).map (a + ·) = some b from h)
    obtain ⟨cs, e, hs⟩ := sumO_some hc
    exact ⟨a :: cs, by rw [e]; rfl, by rw [List.sum_cons, hs]⟩
theorem scr_sum {f : PyData → Option Nat} (hf : ∀ d, isNon d = true → f d = none) : ∀ (ks : List Kd) (ps : List PyData) (g : Nat), ps.length = ks.length → sumO (List.zipWith (partB f) ks ps) = some g → ∃ cs : List Nat, (scrL ks ps).map f = cs.map some ∧ cs.sum = g
  | [], [], g, _, h => ⟨[], rfl, by cases h; rfl⟩
  | [], p :: ps, g, hl, _ => by simp at hl
  | k :: ks, [], g, hl, _ => by simp at hl
  | k :: ks, p :: ps, g, hl, h => by
    rw [List.zipWith_cons_cons] at h
    cases hb : partB f k p with
    | none => rw [hb] at h; cases h
    | some a =>
      rw [hb] at h
      obtain ⟨c, hc, rfl⟩ := Option.map_eq_some_iff.mp (show (sumO (List.zipWith (partB f) ks ps)).map (a + ·) = some g from h)
      obtain ⟨cs, e, hs⟩ := scr_sum hf ks ps c (by simpa using hl) hc
      rw [scrL_cons]
      unfold partB at hb
      cases hk : isScr k with
      | true =>
        rw [if_pos hk] at hb
        cases hn : isNon p with
        | true =>
          have ha : a = 0 := by
            by_cases hs' : k = .s ∧ isNon p = true
            · rw [if_pos hs'] at hb; cases hb; rfl
            · rw [if_neg hs', hf p hn] at hb; cases hb
          subst ha
          exact ⟨cs, by rw [if_neg (by decide)]; exact e, by omega⟩
        | false =>
          rw [if_neg (fun z => by rw [hn] at z; exact absurd z.2 (by decide))] at hb
          exact ⟨a :: cs, by rw [if_pos (by decide), List.map_append, e]; show f p :: _ = _; rw [hb]; rfl, by rw [List.sum_cons, hs]⟩
      | false =>
        rw [if_neg (by rw [hk]; decide)] at hb
        have ha : a = 0 := by
          by_cases ho : partOk k p = true
          · rw [if_pos ho] at hb; cases hb; rfl
          · rw [if_neg ho] at hb; cases hb
        subst ha
        exact ⟨cs, by rw [if_neg (by cases isNon p <;> decide)]; exact e, by omega⟩
theorem deedB_some {f : PyData → Option Nat} {d : PyData} {g : Nat} (h : deedB f d = some g) : ∃ x ps ks, d = .tuple (.str x :: ps) ∧ formOf x = some ks ∧ ps.length = ks.length ∧ sumO (List.zipWith (partB f) ks ps) = some g := by
  cases d with
  | tuple ds =>
    cases ds with
    | nil => cases h
    | cons e ps =>
      cases e with
      | str x =>
        have h : (match formOf x with | some ks => if ps.length = ks.length then sumO (List.zipWith (partB f) ks ps) else none | none => none) = some g := h
        cases hf : formOf x with
        | none => rw [hf] at h; cases h
        | some ks =>
          rw [hf] at h
          have h : (if ps.length = ks.length then sumO (List.zipWith (partB f) ks ps) else none) = some g := h
          by_cases hl : ps.length = ks.length
          · rw [if_pos hl] at h
            exact ⟨x, ps, ks, rfl, hf, hl, h⟩
          · rw [if_neg hl] at h; cases h
      | _ => cases h
  | _ => cases h
theorem sum_cast : ∀ cs : List Nat, (cs.map fun c : Nat => (c : Int)).sum = ((cs.sum : Nat) : Int)
  | [] => rfl
  | c :: cs => by rw [List.map_cons, List.sum_cons, List.sum_cons, sum_cast cs]; omega
section
variable {P : Program} {w : World} {K : PySem.W.Frag} {mg : Str → Option Value} {pB : Heap}
def spScrs : Sp := fun vs H Q _ => ∃ (m : Nat) (v : V) (x : Str) (ps : List PyData) (ks : List Kd), vs = [v] ∧ Rep H (m + 1) v (.tuple (.str x :: ps)) ∧ formOf x = some ks ∧ ps.length = ks.length ∧
  ∀ (q : Addr) (us : List V) (H' : Hp), Same H H' → H q = none → H' q = some (.lst us) → Paired (Rep H' m) us (scrL ks ps) → Q (.ref q) H'
abbrev sScrs : Stmt := top 4
theorem scScrs : FnScope ["deed", "kind", "part"] ["deed"] (defScope sScrs) := ⟨rfl, rfl, rfl, by decide +kernel, rfl, by decide +kernel, by decide +kernel⟩
theorem ok_scrs {f fP kA : Addr} {fd dP : FuncData} (F : Fun K "scripts_of" "scripts_of" sScrs f fd)
    (GP : FnOk P w K mg pB CX0 1 fP dP ["deed"] spParts) (mP : mg "parts_of" = some (.ref fP)) (kP : PySem.W.keepIn K (.ref fP) = true) (bP : Binds K dP ["deed"] [])
    (mK : mg "SCRIPT_KINDS" = some (.ref kA)) (hK : ∀ H, SqT K H kA [.str "script", .str "perhaps"]) : FnOk P w K mg pB CX0 2 f fd ["deed"] spScrs := by
  refine F.ok scScrs (fun vs H Q E h => ?_) (fun cdv A outer s H vs Q E hr h => ?_)
  · obtain ⟨m, v, x, ps, ks, rfl, _⟩ := h
    rfl
  · obtain ⟨m, v, x, ps, ks, rfl, hR, hf, hl, k⟩ := h
    have nd := scScrs.nd
    refine ⟨_, pss_one (ps_ret (pe_lc (own := [("kind", 1), ("part", 2)]) (g := gTup K 2 (gCons (gName 1) (gCons (gName 2) gNil))) (tt := tAnd (tTest (tOp (rIn K false) (tVar 1) (tC (.ref kA)))) (tB (tNotN (tVar 2)))) (te := tVar 2) rfl nd
      (pi_list (pe_call GP hr rfl mP kP bP .nil pass0 (pa_cons (pv 0) pa_nil)))
      (blkOk_by (N := ["deed", "kind", "part"]) (sc := defScope sScrs) (by decide +kernel))
      (fun _ _ _ _ _ => pg_tup (by rfl) (pgs_cons (pg_name (i := 1) nd rfl (Or.inl rfl) (Or.inr rfl)) (pgs_cons (pg_name (i := 2) nd rfl (Or.inl rfl) (Or.inr rfl)) pgs_nil)))
      (fun _ _ _ _ _ => pts_one (PW.pt (pw_and (pt_cmpR op_in_seq (pv 1) (pe_glob (by rfl) mK (show RelV (.ref kA) _ from rfl)) (by rfl)) (pw_and1 (pt_cmp (pc_notN (pv 2)))))))
      (fun _ _ _ _ _ => pv 2))), ?_⟩
    refine ⟨_, rfl, m, v, x, ps, ks, rfl, hR, hf, hl, fun q H2 s2 hq => ?_⟩
    obtain ⟨ts, us, hql, hlt, hpu, hT⟩ := hq
    have hlu := Paired.length hpu
    have hk9 := form_len hf
    refine ⟨q, rfl, ⟨_, SqL.of hql⟩, fun D hD => ?_⟩
    refine lc_list (xs := ts.map V.ref) (fun j H3 => ∃ (zs : List V), Same H2 H3 ∧ H3 D = some (.lst zs) ∧ zs.length ≤ j ∧ Paired (Rep H3 m) zs (scrL (ks.take j) (ps.take j))) ⟨[], Same.new (Same.refl _) hD, upd_same, Nat.le_refl _, .nil⟩ ?_ ?_ ?_
    · rintro j H3 _ ⟨zs, s3, _⟩
      exact SqL.of (s3 _ _ hql)
    · rintro j y H3 hy ⟨zs, s3, c3, hz3, hp3⟩
      rw [List.getElem?_map] at hy
      obtain ⟨t, ht, rfl⟩ := Option.map_eq_some_iff.mp hy
      have hj : j < ts.length := (List.getElem?_eq_some_iff.mp ht).1
      have hkd : ks[j]? = some ks[j] := List.getElem?_eq_getElem (by omega)
      have hu : us[j]? = some us[j] := List.getElem?_eq_getElem (by omega)
      generalize ks[j] = kd at hkd
      generalize us[j] = u at hu
      obtain ⟨e, he, hre⟩ := Paired.at hpu hu
      have hH := s3 _ _ (hT j t kd u ht hkd hu)
      have hre3 := hre.same s3
      have t2 : inV (.str (kname kd)) [.str "script", .str "perhaps"] = isScr kd := by cases kd <;> decide +kernel
      have sn := scrL_snoc hkd he
      refine ⟨t, _, rfl, SqT.of hH, rfl, _, _, rfl, _, _, rfl, rfl, rfl, ?_⟩
      refine ⟨_, rfl, kA, _, rfl, .inr (hK H3), rfl, rfl, _, rfl, ?_⟩
      rcases Bool.eq_false_or_eq_true (isScr kd) with hk | hk
      · refine iteB1 (t2.trans hk) ⟨_, rfl, _, rfl, ?_⟩
        rw [rep_nonn hre3]
        rcases Bool.eq_false_or_eq_true (isNon e) with hno | hno
        · refine iteB0 (by rw [hno]; rfl) ⟨zs, s3, c3, by omega, ?_⟩
          rw [sn, if_neg (by rw [hno, hk]; decide), List.append_nil]
          exact hp3
        · refine iteB1 (by rw [hno]; rfl) ⟨_, rfl, zs, c3, Nat.lt_of_le_of_lt (show zs.length ≤ 9 by omega) (by decide), zs ++ [u], fun b o eb => ?_, upd_same, by rw [List.length_append]; show zs.length + 1 ≤ _; omega, ?_⟩
          · rw [upd_ne (ne_of_none eb hD)]; exact s3 _ _ eb
          · rw [sn, if_pos (by rw [hno, hk]; decide)]
            exact Paired.snoc (Paired.mapP hp3 fun _ _ z => z.updL c3) (hre3.updL c3)
      · refine iteB0 (t2.trans hk) (iteF ⟨zs, s3, c3, by omega, ?_⟩)
        rw [sn, if_neg (by rw [hk]; cases isNon e <;> decide), List.append_nil]
        exact hp3
    · rintro H3 ⟨zs, s3, c3, hz3, hp3⟩
      rw [List.length_map, List.take_of_length_le (by omega), List.take_of_length_le (by omega)] at hp3
      refine k D zs H3 (s2.trans s3) ?_ c3 hp3
      cases e : H D with
      | none => rfl
      | some o => rw [s2 _ _ e] at hD; cases hD
/-! ### deeds_in -/
def spCnt (n : Nat) : Sp := fun vs H Q _ => ∃ (m : Nat) (v : V) (d : PyData) (c : Nat), vs = [v] ∧ Rep H m v d ∧ cnt n d = some c ∧ ∀ H', Same H H' → Q (.int (c : Int)) H'
def spPrevC : Nat → Sp
  | 0 => spBot
  | n + 1 => spCnt n
abbrev sCntP : Stmt := top 5
theorem scCntP : FnScope ["script", "many", "deed", "inner"] ["script"] (defScope sCntP) := ⟨rfl, rfl, rfl, by decide +kernel, rfl, by decide +kernel, by decide +kernel⟩
theorem step_cnt {f fS : Addr} {fd dS : FuncData} (F : Fun K "deeds_in" "deeds_in" sCntP f fd) (n : Nat) (G : FnOk P w K mg pB CX0 (n + 2) f fd ["script"] (spPrevC n)) (mG : mg "deeds_in" = some (.ref f)) (bG : Binds K fd ["script"] [])
    (GS : FnOk P w K mg pB CX0 2 fS dS ["deed"] spScrs) (mS : mg "scripts_of" = some (.ref fS)) (kS : PySem.W.keepIn K (.ref fS) = true) (bS : Binds K dS ["deed"] [])
    (mLen : mg "len" = none) (mSum : mg "sum" = none) : FnOk P w K mg pB CX0 (n + 3) f fd ["script"] (spCnt n) := by
  refine F.ok scCntP (fun vs H Q E h => ?_) (fun cdv A outer s H vs Q E hr h => ?_)
  · obtain ⟨m, v, d, c, rfl, _⟩ := h
    rfl
  · obtain ⟨m, v, d, c, rfl, hR, hc, k⟩ := h
    have nd := scCntP.nd
    have hr2 : Room 2 _ := hr.mono (by omega)
    refine ⟨_, pss_cons (ps_set (i := 1) nd rfl (Or.inl rfl) (pe_callB call_len_seq (by rfl) mLen PySem.boot_len (pa_cons (pv 0) pa_nil)))
      (pss_cons (ps_for PassesOwn.never rfl (pi_tup (pv 0)) (pg_name (i := 2) nd rfl (Or.inl rfl))
        (pss_one (ps_aug (i := 1) nd rfl (Or.inl rfl) (pe_callB (cr_sum rfl) (by rfl) mSum (by decide +kernel) (pa_cons
          (pe_lc (own := [("inner", 3)]) (g := gName 3) (tt := tYes) (te := tCall (spPrevC n) [] E0 (tCons (tVar 3) tNil)) rfl nd
            (pi_list (pe_call GS hr2 rfl mS kS bS .nil pass0 (pa_cons (pv 2) pa_nil)))
            (blkOk_by (N := ["script", "many", "deed", "inner"]) (sc := defScope sCntP) (by decide +kernel)) (fun _ _ _ _ _ => pg_name (i := 3) nd rfl (Or.inl rfl) (Or.inr rfl)) (fun _ _ _ _ _ => pts_nil)
            (fun _ _ _ _ _ => pe_call G hr rfl mG F.kp bG .nil pass0 (pa_cons (pv 3) pa_nil))) pa_nil)) ip_add)))
      (pss_one (ps_ret (pv 1)))), ?_⟩
    cases n with
    | zero => cases hc
    | succ n =>
    obtain ⟨ds, rfl⟩ : ∃ ds, d = .tuple ds := by cases d <;> first | exact ⟨_, rfl⟩ | cases hc
    obtain ⟨m', a, xs, rfl, rfl, ha, hp⟩ := rep_tup hR
    have hlen := Paired.length hp
    rw [cnt] at hc
    obtain ⟨b, hb, rfl⟩ := Option.map_eq_some_iff.mp hc
    obtain ⟨cs, ecs, hcs⟩ := sumO_some hb
    have hlc : cs.length = ds.length := by have := congrArg List.length ecs; rw [List.length_map, List.length_map] at this; omega
    refine asg_n ⟨_, rfl, a, xs, rfl, .inr (SqT.of ha), ?_⟩
    refine ⟨_, rfl, a, rfl, ⟨_, SqT.of ha⟩, for_tup (xs := xs) (fun j σ H3 => ∃ (x2 : Option V), σ = [some (.ref a), some (.int ((xs.length : Int) + ((cs.take j).sum : Nat))), x2, none] ∧ Same H H3) ⟨none, by rw [List.take_zero]; show _ = [_, some (V.int ((xs.length : Int) + 0)), _, _]; rw [Int.add_zero]; rfl, Same.refl _⟩ ?_ ?_ ?_⟩
    · rintro j σ H3 _ ⟨x2, rfl, s3⟩
      exact SqT.of (s3 _ _ ha)
    · rintro j y σ H3 hy ⟨x2, rfl, s3⟩
      obtain ⟨e, he, hre⟩ := Paired.at hp hy
      have hj : j < ds.length := (List.getElem?_eq_some_iff.mp he).1
      have hcj : cs[j]? = some cs[j] := List.getElem?_eq_getElem (by omega)
      generalize cs[j] = g at hcj
      have hde : deedB (cnt n) e = some g := by
        have := congrArg (fun l : List (Option Nat) => l[j]?) ecs
        simp only [List.getElem?_map, he, hcj, Option.map_some] at this
        exact Option.some.inj this
      obtain ⟨x, ps, ks, rfl, hf, hl, hsm⟩ := deedB_some hde
      obtain ⟨gs, egs, hgs⟩ := scr_sum (fun d hn => by
        cases h : cnt n d with
        | none => rfl
        | some c => exact absurd (cnt_tup h) (by rw [hn]; decide)) ks ps g hl hsm
      obtain ⟨m2, t, zs, rfl, rfl, ht, hpz⟩ := rep_tup hre
      have hlg : gs.length = (scrL ks ps).length := by have := congrArg List.length egs; rw [List.length_map, List.length_map] at this; omega
      have hk9 := form_len hf
      have hl9 : (scrL ks ps).length ≤ 9 := by
        unfold scrL
        rw [List.length_map]
        refine Nat.le_trans (List.length_filter_le _ _) ?_
        rw [List.length_zip]; omega
      refine ⟨_, rfl, _, rfl, m2, .ref t, x, ps, ks, rfl, hre.same s3, hf, hl, fun q us H4 s4 _ cq hpu => ?_⟩
      have hlu := Paired.length hpu
      refine ⟨q, rfl, ⟨_, SqL.of cq⟩, fun D hD => ?_⟩
      refine lc_list (xs := us) (fun i H5 => Same H4 H5 ∧ H5 D = some (.lst (((gs.take i).map fun c : Nat => (c : Int)).map V.int))) ⟨Same.new (Same.refl _) hD, upd_same⟩ (fun i H5 _ p => SqL.of (p.1 _ _ cq)) ?_ ?_
      · rintro i u H5 hu ⟨s5, c5⟩
        obtain ⟨e', he', hre'⟩ := Paired.at hpu hu
        have hi : i < (scrL ks ps).length := (List.getElem?_eq_some_iff.mp he').1
        have hgi : gs[i]? = some gs[i] := List.getElem?_eq_getElem (by omega)
        generalize gs[i] = gi at hgi
        have hce : cnt n e' = some gi := by
          have := congrArg (fun l : List (Option Nat) => l[i]?) egs
          simp only [List.getElem?_map, he', hgi, Option.map_some] at this
          exact Option.some.inj this
        refine ⟨rfl, yes_of (iteT (call_of ⟨_, rfl, m2, u, e', gi, rfl, hre'.same s5, hce, fun H6 s6 => ⟨_, s6 _ _ c5, ?_, fun b o eb => ?_, ?_⟩⟩))⟩
        · rw [List.length_map, List.length_map, List.length_take]
          exact Nat.lt_of_le_of_lt (show min i gs.length ≤ 9 by omega) (by decide)
        · rw [upd_ne (ne_of_none eb hD)]; exact s6 _ _ (s5 _ _ eb)
        · rw [upd_same, take_snoc hgi, List.map_append, List.map_append]; rfl
      · rintro H5 ⟨s5, c5⟩
        rw [List.take_of_length_le (by omega)] at c5
        refine ⟨D, _, rfl, SqL.of c5, _, _, rfl, rfl, some (.ref t), ?_, s3.trans (s4.trans s5)⟩
        rw [sum_cast, hgs, take_snoc hcj, List.sum_append]
        show [_, some (V.int ((xs.length : Int) + ((cs.take j).sum : Nat) + (g : Int))), _, _] = _
        rw [show (xs.length : Int) + ((cs.take j).sum : Nat) + (g : Int) = (xs.length : Int) + (((cs.take j).sum + [g].sum : Nat) : Int) by simp; omega]
    · rintro σ H3 ⟨x2, rfl, s3⟩
      rw [List.take_of_length_le (by omega), hcs]
      refine ⟨_, rfl, ?_⟩
      have := k H3 s3
      rw [show ((ds.length + b : Nat) : Int) = (xs.length : Int) + (b : Int) by omega] at this
      exact this
theorem ok_cnt {f fS : Addr} {fd dS : FuncData} (F : Fun K "deeds_in" "deeds_in" sCntP f fd) (mG : mg "deeds_in" = some (.ref f)) (bG : Binds K fd ["script"] [])
    (GS : FnOk P w K mg pB CX0 2 fS dS ["deed"] spScrs) (mS : mg "scripts_of" = some (.ref fS)) (kS : PySem.W.keepIn K (.ref fS) = true) (bS : Binds K dS ["deed"] [])
    (mLen : mg "len" = none) (mSum : mg "sum" = none) : ∀ n, FnOk P w K mg pB CX0 (n + 3) f fd ["script"] (spCnt n)
  | 0 => step_cnt F 0 ok_bot mG bG GS mS kS bS mLen mSum
  | n + 1 => step_cnt F (n + 1) (ok_cnt F mG bG GS mS kS bS mLen mSum n) mG bG GS mS kS bS mLen mSum
end
end My

set_option Elab.async false
set_option linter.all false
set_option maxRecDepth 100000
set_option maxHeartbeats 4000000
namespace My
open PySem L2
/-! ### in every deed the scripts stand last -/
def lastS : List Kd → Bool
  | [] => true
  | k :: ks => if isScr k = true then ks.all isScr else lastS ks
theorem forms_last : ∀ p ∈ formL, lastS p.2 = true := by decide +kernel
theorem form_mem {x : Str} {ks : List Kd} (h : formOf x = some ks) : ∃ p ∈ formL, p.2 = ks := by
  obtain ⟨p, hp, e⟩ := Option.map_eq_some_iff.mp (show (formL.find? fun p => decide (p.1 = x)).map (·.2) = some ks from h)
  exact ⟨p, List.mem_of_find?_eq_some hp, e⟩
theorem form_last {x : Str} {ks : List Kd} (h : formOf x = some ks) : lastS ks = true := by
  obtain ⟨p, hp, rfl⟩ := form_mem h
  exact forms_last p hp
def leafP (k : Kd) (d : PyData) : List Str := if isScr k = true then [] else txD d
theorem all_last : ∀ {ks : List Kd}, ks.all isScr = true → lastS ks = true
  | [], _ => rfl
  | k :: ks, h => by
    rw [List.all_cons, Bool.and_eq_true] at h
    rw [lastS, if_pos h.1]; exact h.2
theorem leaf_nil : ∀ (ks : List Kd) (ps : List PyData), ks.all isScr = true → (List.zipWith leafP ks ps).flatten = []
  | [], _, _ => rfl
  | _ :: _, [], _ => rfl
  | k :: ks, p :: ps, h => by
    rw [List.all_cons, Bool.and_eq_true] at h
    rw [List.zipWith_cons_cons, List.flatten_cons, leaf_nil ks ps h.2, List.append_nil]
    unfold leafP
    rw [if_pos h.1]
theorem deed_split (f : PyData → List Str) : ∀ (ks : List Kd) (ps : List PyData), lastS ks = true → (List.zipWith leafP ks ps).flatten ++ ((scrL ks ps).map f).flatten = (List.zipWith (partW f) ks ps).flatten
  | [], _, _ => rfl
  | _ :: _, [], _ => rfl
  | k :: ks, p :: ps, h => by
    rw [List.zipWith_cons_cons, List.zipWith_cons_cons, List.flatten_cons, List.flatten_cons, scrL_cons, List.map_append, List.flatten_append]
    cases hk : isScr k with
    | true =>
      rw [lastS, if_pos hk] at h
      have ih := deed_split f ks ps (all_last h)
      rw [leaf_nil ks ps h, List.nil_append] at ih
      rw [leaf_nil ks ps h, ih]
      unfold leafP partW
      rw [if_pos hk, if_pos hk]
      cases hn : isNon p with
      | true => rw [if_neg (by decide), if_pos rfl]; rfl
      | false => rw [if_pos (by decide), if_neg (by decide)]; show ([] ++ []) ++ (f p ++ [] ++ _) = _; simp
    | false =>
      rw [lastS, if_neg (by rw [hk]; decide)] at h
      have ih := deed_split f ks ps h
      rw [← ih]
      simp [leafP, partW, hk]
theorem flat_le {g : PyData → List Str} (hg : ∀ d, (g d).length ≤ szD d) : ∀ ds : List PyData, ((ds.map g).flatten).length ≤ szL ds
  | [] => Nat.zero_le _
  | d :: ds => by
    have h1 := hg d
    have h2 := flat_le hg ds
    rw [List.map_cons, List.flatten_cons, List.length_append, szL]; omega
theorem zip_le {g : Kd → PyData → List Str} (hg : ∀ k d, (g k d).length ≤ szD d) : ∀ (ks : List Kd) (ps : List PyData), ((List.zipWith g ks ps).flatten).length ≤ szL ps
  | [], _ => Nat.zero_le _
  | _ :: _, [] => Nat.zero_le _
  | k :: ks, p :: ps => by
    have h1 := hg k p
    have h2 := zip_le hg ks ps
    rw [List.zipWith_cons_cons, List.flatten_cons, List.length_append, szL]; omega
theorem leafP_le (k : Kd) (d : PyData) : (leafP k d).length ≤ szD d := by
  unfold leafP
  by_cases h : isScr k = true
  · rw [if_pos h]; exact Nat.zero_le _
  · rw [if_neg h]; exact txD_le d
theorem partW_le {f : PyData → List Str} (hf : ∀ d, (f d).length ≤ szD d) (k : Kd) (d : PyData) : (partW f k d).length ≤ szD d := by
  unfold partW
  by_cases h : isScr k = true
  · rw [if_pos h]
    by_cases h2 : isNon d = true
    · rw [if_pos h2]; exact Nat.zero_le _
    · rw [if_neg h2]; exact hf d
  · rw [if_neg h]; exact txD_le d
theorem deedW_le {f : PyData → List Str} (hf : ∀ d, (f d).length ≤ szD d) (d : PyData) : (deedW f d).length ≤ szD d := by
  cases d with
  | tuple ds =>
    cases ds with
    | nil => exact Nat.zero_le _
    | cons e ps =>
      cases e with
      | str x =>
        show (match formOf x with | some ks => (List.zipWith (partW f) ks ps).flatten | none => []).length ≤ _
        cases formOf x with
        | none => exact Nat.zero_le _
        | some ks =>
          have := zip_le (partW_le hf) ks ps
          show ((List.zipWith (partW f) ks ps).flatten).length ≤ _
          rw [szD, szL]; omega
      | _ => exact Nat.zero_le _
  | _ => exact Nat.zero_le _
theorem wds_le : ∀ (n : Nat) (d : PyData), (wds n d).length ≤ szD d
  | 0, d => Nat.zero_le _
  | n + 1, d => by
    cases d with
    | tuple ds =>
      have := flat_le (deedW_le (wds_le n)) ds
      rw [wds, szD]; omega
    | _ => exact Nat.zero_le _
theorem deedW_form {f : PyData → List Str} {x : Str} {ps : List PyData} {ks : List Kd} (h : formOf x = some ks) : deedW f (.tuple (.str x :: ps)) = (List.zipWith (partW f) ks ps).flatten := by
  show (match formOf x with | some ks => (List.zipWith (partW f) ks ps).flatten | none => []) = _
  rw [h]
/-- a part that is no script is a worth -/
theorem part_leaf {f : PyData → Option Nat} {ks : List Kd} {ps : List PyData} {g j : Nat} {k : Kd} {d : PyData} (hs : sumO (List.zipWith (partB f) ks ps) = some g) (hk : ks[j]? = some k) (hd : ps[j]? = some d) (h : isScr k = false) : isW 4 d = true := by
  obtain ⟨cs, e, _⟩ := sumO_some hs
  have hL : (List.zipWith (partB f) ks ps)[j]? = some (partB f k d) := by rw [List.getElem?_zipWith, hk, hd]
  rw [e, List.getElem?_map] at hL
  obtain ⟨c, _, hc⟩ := Option.map_eq_some_iff.mp hL
  unfold partB at hc
  rw [if_neg (by rw [h]; decide)] at hc
  by_cases ho : partOk k d = true
  · exact part_isW ho
  · rw [if_neg ho] at hc; cases hc
section
variable {P : Program} {w : World} {K : PySem.W.Frag} {mg : Str → Option Value} {pB : Heap}
theorem Rep.grow {H H' : Hp} {p : Addr} {ys zs : List V} {n : Nat} {v : V} {x : PyData} (h : Rep H n v x) (s : ∀ b o, H b = some o → b ≠ p → H' b = some o) (c : H p = some (.lst ys)) (c' : H' p = some (.lst zs)) : Rep H' n v x :=
  (Rep.updL (zs := zs) c h).same fun b o e => by
    by_cases z : b = p
    · rw [z, upd_same] at e; rw [z, c']; exact e
    · rw [upd_ne z] at e; exact s b o e z
def spAll (n : Nat) : Sp := fun vs H Q _ => ∃ (m : Nat) (v : V) (d : PyData) (c : Nat), vs = [v] ∧ Rep H m v d ∧ cnt n d = some c ∧ szD d ≤ 1000000 ∧ ∀ (p : Addr) (H' : Hp), Same H H' → H p = none → H' p = some (.lst ((wds n d).map V.str)) → Q (.ref p) H'
def spPrevA : Nat → Sp
  | 0 => spBot
  | n + 1 => spAll n
abbrev sAll : Stmt := top 7
abbrev nAll : List Str := ["script", "words", "deed", "kind", "part", "inner"]
theorem scAll : FnScope nAll ["script"] (defScope sAll) := ⟨rfl, rfl, rfl, by decide +kernel, rfl, by decide +kernel, by decide +kernel⟩
theorem step_all {f fS fP fW kA : Addr} {fd dS dP dW : FuncData} (F : Fun K "all_words" "all_words" sAll f fd) (n : Nat) (G : FnOk P w K mg pB CX0 (n + 6) f fd ["script"] (spPrevA n)) (mG : mg "all_words" = some (.ref f)) (bG : Binds K fd ["script"] [])
    (GS : FnOk P w K mg pB CX0 2 fS dS ["deed"] spScrs) (mS : mg "scripts_of" = some (.ref fS)) (kS : PySem.W.keepIn K (.ref fS) = true) (bS : Binds K dS ["deed"] [])
    (GP : FnOk P w K mg pB CX0 1 fP dP ["deed"] spParts) (mP : mg "parts_of" = some (.ref fP)) (kP : PySem.W.keepIn K (.ref fP) = true) (bP : Binds K dP ["deed"] [])
    (GW : FnOk P w K mg pB CX0 6 fW dW ["worth"] (spTx 4)) (mW : mg "words_of_worth" = some (.ref fW)) (kW : PySem.W.keepIn K (.ref fW) = true) (bW' : Binds K dW ["worth"] [])
    (mK : mg "SCRIPT_KINDS" = some (.ref kA)) (hK : ∀ H, SqT K H kA [.str "script", .str "perhaps"]) : FnOk P w K mg pB CX0 (n + 7) f fd ["script"] (spAll n) := by
  refine F.ok scAll (fun vs H Q E h => ?_) (fun cdv A outer s H vs Q E hr h => ?_)
  · obtain ⟨m, v, d, c, rfl, _⟩ := h
    rfl
  · obtain ⟨m, v, d, c, rfl, hR, hc, hz, k⟩ := h
    have nd := scAll.nd
    have hr1 : Room 1 _ := hr.mono (by omega)
    have hr2 : Room 2 _ := hr.mono (by omega)
    have hr6 : Room 6 _ := hr.mono (by omega)
    refine ⟨_, pss_cons (ps_set (i := 1) nd rfl (Or.inl rfl) (pe_lst pa_nil))
      (pss_cons (ps_for PassesOwn.never rfl (pi_tup (pv 0)) (pg_name (i := 2) nd rfl (Or.inl rfl))
        (pss_cons (ps_for PassesOwn.never rfl (pi_list (pe_call GP hr1 rfl mP kP bP .nil pass0 (pa_cons (pv 2) pa_nil))) (pg_tup (by rfl) (pgs_cons (pg_name (i := 3) nd rfl (Or.inl rfl)) (pgs_cons (pg_name (i := 4) nd rfl (Or.inl rfl)) pgs_nil)))
          (pss_one (ps_if (pt_cmpR op_notIn_seq (pv 3) (pe_glob (by rfl) mK (show RelV (.ref kA) _ from rfl)) (by rfl))
            (pss_one (ps_expr (pe_bm PySem.F.plainAttrs_list PySem.F.slot_list_extend PySem.F.type_list_extend mt_extend (pv 1) (pa_cons (pe_call GW hr6 rfl mW kW bW' .nil pass0 (pa_cons (pv 4) pa_nil)) pa_nil)))) pss_nil)))
        (pss_one (ps_for PassesOwn.never rfl (pi_list (pe_call GS hr2 rfl mS kS bS .nil pass0 (pa_cons (pv 2) pa_nil))) (pg_name (i := 5) nd rfl (Or.inl rfl))
          (pss_one (ps_expr (pe_bm PySem.F.plainAttrs_list PySem.F.slot_list_extend PySem.F.type_list_extend mt_extend (pv 1) (pa_cons (pe_call G hr rfl mG F.kp bG .nil pass0 (pa_cons (pv 5) pa_nil)) pa_nil))))))))
      (pss_one (ps_ret (pv 1)))), ?_⟩
    cases n with
    | zero => cases hc
    | succ n =>
    obtain ⟨ds, rfl⟩ : ∃ ds, d = .tuple ds := by cases d <;> first | exact ⟨_, rfl⟩ | cases hc
    obtain ⟨m', a, xs, rfl, rfl, ha, hp⟩ := rep_tup hR
    have hlen := Paired.length hp
    have hzs : szL ds ≤ 1000000 := by rw [szD] at hz; omega
    rw [cnt] at hc
    obtain ⟨b, hb, rfl⟩ := Option.map_eq_some_iff.mp hc
    obtain ⟨cs, ecs, hcs⟩ := sumO_some hb
    have hlc : cs.length = ds.length := by have := congrArg List.length ecs; rw [List.length_map, List.length_map] at this; omega
    have dle := deedW_le (wds_le n)
    refine asg_n (lst_of ⟨Nat.zero_le _, fun p hpn => ?_⟩)
    have s1 : Same H (L2.upd H p (.lst [])) := Same.new (Same.refl _) hpn
    refine ⟨_, rfl, a, rfl, ⟨_, SqT.of (s1 _ _ ha)⟩, for_tup (xs := xs) (fun j σ H3 => ∃ (x2 x3 x4 x5 : Option V), σ = [some (.ref a), some (.ref p), x2, x3, x4, x5] ∧ Same H H3 ∧ H3 p = some (.lst (((ds.take j).map (deedW (wds n))).flatten.map V.str))) ⟨none, none, none, none, rfl, s1, upd_same⟩ ?_ ?_ ?_⟩
    · rintro j σ H3 _ ⟨x2, x3, x4, x5, rfl, s3, _⟩
      exact SqT.of (s3 _ _ ha)
    · rintro j y σ H3 hy ⟨x2, x3, x4, x5, rfl, s3, c3⟩
      obtain ⟨e, he, hre⟩ := Paired.at hp hy
      have hj : j < ds.length := (List.getElem?_eq_some_iff.mp he).1
      have hcj : cs[j]? = some cs[j] := List.getElem?_eq_getElem (by omega)
      generalize cs[j] = g at hcj
      have hde : deedB (cnt n) e = some g := by
        have := congrArg (fun l : List (Option Nat) => l[j]?) ecs
        simp only [List.getElem?_map, he, hcj, Option.map_some] at this
        exact Option.some.inj this
      obtain ⟨x, ps, ks, rfl, hf, hl, hsm⟩ := deedB_some hde
      obtain ⟨gs, egs, hgs⟩ := scr_sum (fun d hn => by
        cases h : cnt n d with
        | none => rfl
        | some c => exact absurd (cnt_tup h) (by rw [hn]; decide)) ks ps g hl hsm
      have hsz := Nat.le_trans (szL_get he) hzs
      have hzp : szL ps ≤ 1000000 := by rw [szD, szL] at hsz; omega
      obtain ⟨m2, t, zs, rfl, rfl, ht, hpz⟩ := rep_tup hre
      have w1 := flat_le dle (ds.take j)
      have w2 := szL_take ds j
      generalize hW : ((ds.take j).map (deedW (wds n))).flatten = W at c3 w1
      refine ⟨_, rfl, m2, .ref t, x, ps, ks, rfl, hre.same s3, hf, hl, fun q H4 s4 hq => ?_⟩
      obtain ⟨ts, us, hql, hlt, hpu, hT⟩ := hq
      have hlu := Paired.length hpu
      have c4 := s4 _ _ c3
      have hpq : p = q → ts = [] ∧ W = [] := fun z => by
        rw [z, hql] at c4
        have e := HO.lst.inj (Option.some.inj c4)
        cases ts with
        | nil =>
          cases W with
          | nil => exact ⟨rfl, rfl⟩
          | cons _ _ => cases e
        | cons _ _ =>
          cases W with
          | nil => cases e
          | cons _ _ => exact nomatch (List.cons.inj e).1
      refine ⟨q, rfl, ⟨_, SqL.of hql⟩, for_list (xs := ts.map V.ref) (fun i σ H5 => ∃ (x3 x4 : Option V), σ = [some (.ref a), some (.ref p), some (.ref t), x3, x4, x5] ∧ (∀ b o, H4 b = some o → b ≠ p → H5 b = some o) ∧ H5 p = some (.lst ((W ++ (List.zipWith leafP (ks.take i) (ps.take i)).flatten).map V.str))) ?_ ?_ ?_ ?_⟩
      · exact ⟨x3, x4, rfl, fun b o e _ => e, by rw [List.take_zero, List.zipWith_nil_left, List.flatten_nil, List.append_nil]; exact c4⟩
      · rintro i σ H5 hi ⟨x3, x4, rfl, s5, c5⟩
        by_cases z : p = q
        · obtain ⟨rfl, rfl⟩ := hpq z
          have : i = 0 := by simpa using hi
          subst this
          rw [z] at c5
          exact SqL.of c5
        · exact SqL.of (s5 _ _ hql (Ne.symm z))
      · rintro i y σ H5 hy ⟨x3, x4, rfl, s5, c5⟩
        rw [List.getElem?_map] at hy
        obtain ⟨t', ht', rfl⟩ := Option.map_eq_some_iff.mp hy
        have hi : i < ts.length := (List.getElem?_eq_some_iff.mp ht').1
        have hkd : ks[i]? = some ks[i] := List.getElem?_eq_getElem (by omega)
        have hu : us[i]? = some us[i] := List.getElem?_eq_getElem (by omega)
        generalize ks[i] = kd at hkd
        generalize us[i] = u at hu
        obtain ⟨e', he', hre'⟩ := Paired.at hpu hu
        have hH4 := hT i t' kd u ht' hkd hu
        have hH5 := s5 _ _ hH4 (ne_of hH4 c4 (by intro z; cases z))
        have hre5 := hre'.grow s5 c4 c5
        have hsz' : szD e' ≤ 1000000 := Nat.le_trans (szL_get he') hzp
        have t2 : inV (.str (kname kd)) [.str "script", .str "perhaps"] = isScr kd := by cases kd <;> decide +kernel
        have zn : (List.zipWith leafP (ks.take (i + 1)) (ps.take (i + 1))).flatten = (List.zipWith leafP (ks.take i) (ps.take i)).flatten ++ leafP kd e' := by
          have h1 := (List.getElem?_eq_some_iff.mp hkd).1
          have h2 := (List.getElem?_eq_some_iff.mp he').1
          rw [take_snoc hkd, take_snoc he', List.zipWith_append (by rw [List.length_take, List.length_take]; omega), List.flatten_append]
          show _ ++ (leafP kd e' ++ []) = _
          rw [List.append_nil]
        have a1 := zip_le leafP_le (ks.take i) (ps.take i)
        have a2 := szL_take ps i
        have a3 := txD_le e'
        refine ⟨t', _, rfl, SqT.of hH5, rfl, _, _, rfl, _, _, rfl, rfl, ?_⟩
        refine ⟨_, rfl, kA, _, rfl, .inr (hK H5), rfl, rfl, _, rfl, ?_⟩
        rcases Bool.eq_false_or_eq_true (isScr kd) with hk | hk
        · refine iteB0 (by show (!inV _ _) = false; rw [t2, hk]; rfl) ⟨_, _, rfl, s5, ?_⟩
          rw [zn, leafP, if_pos hk, List.append_nil]
          exact c5
        · refine iteB1 (by show (!inV _ _) = true; rw [t2, hk]; rfl) ?_
          refine ⟨_, rfl, .inl ⟨rfl, _, SqL.of c5⟩, ?_⟩
          refine call_of ⟨_, rfl, m2, u, e', rfl, hre5, part_leaf hsm hkd he' hk, hsz', fun r H6 s6 hrn c6 => ?_⟩
          refine ⟨p, r, _, _, rfl, rfl, s6 _ _ c5, c6, ?_, _, _, rfl, fun b o eb hbp => ?_, ?_⟩
          · rw [List.length_map, List.length_map, List.length_append]
            exact Nat.le_trans (show _ ≤ 4000000 by omega) (by decide)
          · rw [upd_ne hbp]; exact s6 _ _ (s5 _ _ eb hbp)
          · rw [upd_same, zn, leafP, if_neg (by rw [hk]; decide), ← List.map_append, List.append_assoc]
      · rintro σ H5 ⟨x3, x4, rfl, s5, c5⟩
        rw [List.length_map, List.take_of_length_le (by omega), List.take_of_length_le (by omega)] at c5
        have hre5 := (hre.same (s3.trans s4)).grow s5 c4 c5
        have a1 := zip_le leafP_le ks ps
        generalize hA : (List.zipWith leafP ks ps).flatten = A at c5 a1
        refine ⟨_, rfl, m2, .ref t, x, ps, ks, rfl, hre5, hf, hl, fun q2 us2 H6 s6 hn6 cq2 hpu2 => ?_⟩
        have c6 := s6 _ _ c5
        have hpq2 : q2 ≠ p := fun z => by rw [z, c5] at hn6; cases hn6
        have hlu2 := Paired.length hpu2
        have hlg : gs.length = (scrL ks ps).length := by have := congrArg List.length egs; rw [List.length_map, List.length_map] at this; omega
        refine ⟨q2, rfl, ⟨_, SqL.of cq2⟩, for_list (xs := us2) (fun i σ H7 => ∃ (x5 : Option V), σ = [some (.ref a), some (.ref p), some (.ref t), x3, x4, x5] ∧ (∀ b o, H6 b = some o → b ≠ p → H7 b = some o) ∧ H7 p = some (.lst (((W ++ A) ++ (((scrL ks ps).take i).map (wds n)).flatten).map V.str))) ?_ ?_ ?_ ?_⟩
        · exact ⟨x5, rfl, fun b o e _ => e, by rw [List.take_zero, List.map_nil, List.flatten_nil, List.append_nil]; exact c6⟩
        · rintro i σ H7 hi ⟨x5, rfl, s7, c7⟩
          exact SqL.of (s7 _ _ cq2 hpq2)
        · rintro i u σ H7 hu ⟨x5, rfl, s7, c7⟩
          obtain ⟨e', he', hre'⟩ := Paired.at hpu2 hu
          have hi : i < (scrL ks ps).length := (List.getElem?_eq_some_iff.mp he').1
          have hgi : gs[i]? = some gs[i] := List.getElem?_eq_getElem (by omega)
          generalize gs[i] = gi at hgi
          have hce : cnt n e' = some gi := by
            have := congrArg (fun l : List (Option Nat) => l[i]?) egs
            simp only [List.getElem?_map, he', hgi, Option.map_some] at this
            exact Option.some.inj this
          have hre7 := hre'.grow s7 c6 c7
          have b1 := scrL_sz ks ps
          have hsz' : szD e' ≤ 1000000 := Nat.le_trans (szL_get he') (by omega)
          have b2 := flat_le (wds_le n) ((scrL ks ps).take i)
          have b3 := szL_take (scrL ks ps) i
          have b4 := wds_le n e'
          refine ⟨_, rfl, .inl ⟨rfl, _, SqL.of c7⟩, ?_⟩
          refine call_of (sp := spAll n) ⟨_, rfl, m2, u, e', gi, rfl, hre7, hce, hsz', fun r H8 s8 hrn c8 => ?_⟩
          refine ⟨p, r, _, _, rfl, rfl, s8 _ _ c7, c8, ?_, _, rfl, fun b o eb hbp => ?_, ?_⟩
          · rw [List.length_map, List.length_map, List.length_append, List.length_append]
            exact Nat.le_trans (show _ ≤ 4000000 by omega) (by decide)
          · rw [upd_ne hbp]; exact s8 _ _ (s7 _ _ eb hbp)
          · have en : (((scrL ks ps).take (i + 1)).map (wds n)).flatten = (((scrL ks ps).take i).map (wds n)).flatten ++ wds n e' := by
              rw [take_snoc he', List.map_append, List.flatten_append]
              show _ ++ (wds n e' ++ []) = _
              rw [List.append_nil]
            rw [upd_same, en, ← List.map_append, List.append_assoc]
        · rintro σ H7 ⟨x5, rfl, s7, c7⟩
          refine ⟨_, _, _, _, rfl, fun b o eb => ?_, ?_⟩
          · have hbp : b ≠ p := ne_of_none eb hpn
            exact s7 _ _ (s6 _ _ (s5 _ _ (s4 _ _ (s3 _ _ eb)) hbp)) hbp
          · have en : ((ds.take (j + 1)).map (deedW (wds n))).flatten = W ++ (List.zipWith (partW (wds n)) ks ps).flatten := by
              rw [take_snoc he, List.map_append, List.flatten_append, hW]
              show _ ++ (deedW (wds n) (.tuple (.str x :: ps)) ++ []) = _
              rw [List.append_nil, deedW_form hf]
            rw [c7, List.take_of_length_le (by omega), List.append_assoc, ← hA, deed_split _ ks ps (form_last hf), en]
    · rintro σ H3 ⟨x2, x3, x4, x5, rfl, s3, c3⟩
      rw [hlen, List.take_length] at c3
      exact ⟨_, rfl, k p H3 s3 hpn (by rw [wds]; exact c3)⟩
theorem ok_all {f fS fP fW kA : Addr} {fd dS dP dW : FuncData} (F : Fun K "all_words" "all_words" sAll f fd) (mG : mg "all_words" = some (.ref f)) (bG : Binds K fd ["script"] [])
    (GS : FnOk P w K mg pB CX0 2 fS dS ["deed"] spScrs) (mS : mg "scripts_of" = some (.ref fS)) (kS : PySem.W.keepIn K (.ref fS) = true) (bS : Binds K dS ["deed"] [])
    (GP : FnOk P w K mg pB CX0 1 fP dP ["deed"] spParts) (mP : mg "parts_of" = some (.ref fP)) (kP : PySem.W.keepIn K (.ref fP) = true) (bP : Binds K dP ["deed"] [])
    (GW : FnOk P w K mg pB CX0 6 fW dW ["worth"] (spTx 4)) (mW : mg "words_of_worth" = some (.ref fW)) (kW : PySem.W.keepIn K (.ref fW) = true) (bW' : Binds K dW ["worth"] [])
    (mK : mg "SCRIPT_KINDS" = some (.ref kA)) (hK : ∀ H, SqT K H kA [.str "script", .str "perhaps"]) : ∀ n, FnOk P w K mg pB CX0 (n + 7) f fd ["script"] (spAll n)
  | 0 => step_all F 0 ok_bot mG bG GS mS kS bS GP mP kP bP GW mW kW bW' mK hK
  | n + 1 => step_all F (n + 1) (ok_all F mG bG GS mS kS bS GP mP kP bP GW mW kW bW' mK hK n) mG bG GS mS kS bS GP mP kP bP GW mW kW bW' mK hK
/-! ### words_in -/
def spWin (n : Nat) : Sp := fun vs H Q _ => ∃ (m : Nat) (v : V) (d : PyData) (c : Nat), vs = [v] ∧ Rep H m v d ∧ cnt n d = some c ∧ szD d ≤ 1000000 ∧ (wds n d).length ≤ 3900 ∧
  ∀ (ss : List Str) (p : Addr) (H' : Hp), Same H H' → PyProof.Rows.sortedS ss = true → ss.Nodup → (∀ k, k ∈ ss ↔ k ∈ wds n d) → ss.length ≤ 3900 → H p = none → H' p = some (.lst (ss.map V.str)) → Q (.ref p) H'
abbrev sWin : Stmt := top 6
theorem scWin : FnScope ["script"] ["script"] (defScope sWin) := ⟨rfl, rfl, rfl, by decide +kernel, rfl, by decide +kernel, by decide +kernel⟩
theorem ok_win {f fA : Addr} {fd dA : FuncData} (F : Fun K "words_in" "words_in" sWin f fd) (n : Nat)
    (GA : FnOk P w K mg pB CX0 (n + 7) fA dA ["script"] (spAll n)) (mA : mg "all_words" = some (.ref fA)) (kA : PySem.W.keepIn K (.ref fA) = true) (bA : Binds K dA ["script"] [])
    (mSo : mg "sorted" = none) (mSe : mg "set" = none) : FnOk P w K mg pB CX0 (n + 8) f fd ["script"] (spWin n) := by
  refine F.ok scWin (fun vs H Q E h => ?_) (fun cdv A outer s H vs Q E hr h => ?_)
  · obtain ⟨m, v, d, c, rfl, _⟩ := h
    rfl
  · obtain ⟨m, v, d, c, rfl, hR, hc, hz, hw, k⟩ := h
    refine ⟨_, pss_one (ps_ret (pe_sortSet rfl (by rfl) mSo (by rfl) mSe (pe_call GA hr rfl mA kA bA .nil pass0 (pa_cons (pv 0) pa_nil)))), ?_⟩
    refine call_of ⟨_, rfl, m, v, d, c, rfl, hR, hc, hz, fun p H1 s1 hp c1 => ?_⟩
    refine ⟨p, wds n d, rfl, SqL.of c1, Nat.lt_of_le_of_lt (show (wds n d).length + 1 ≤ 3901 by omega) (by decide), fun ss r h1 h2 h3 h4 hr => ?_⟩
    refine k ss r _ (s1.trans (Same.new (Same.refl _) hr)) h1 h2 h3 (by omega) ?_ upd_same
    cases e : H r with
    | none => rfl
    | some o => rw [s1 _ _ e] at hr; cases hr
end
end My

set_option Elab.async false
set_option linter.all false
set_option maxRecDepth 100000
set_option maxHeartbeats 4000000
namespace My
open PySem L2
theorem fresh_of {H H' : Hp} {p : Addr} (s : Same H H') (h : H' p = none) : H p = none := by
  cases e : H p with
  | none => rfl
  | some o => rw [s _ _ e] at h; cases h
theorem tx_none {k : Kd} {d : PyData} (h : partOk k d = true) (h1 : k ≠ .w) (h2 : k ≠ .v) (h3 : k ≠ .n) : txD d = [] := by
  have bt : ∀ {lo hi : Int}, btw lo hi d = true → txD d = [] := fun h => by cases d <;> first | rfl | cases h
  cases k with
  | w => exact absurd rfl h1
  | v => exact absurd rfl h2
  | n => exact absurd rfl h3
  | k => exact bt h
  | r => exact bt h
  | e => exact bt h
  | i =>
    have h : (isNon d || btw 0 1000 d) = true := h
    rcases Bool.or_eq_true _ _ ▸ h with h | h
    · cases d <;> first | rfl | cases h
    · exact bt h
  | S => cases h
  | s => cases h
section
variable {P : Program} {w : World} {K : PySem.W.Frag} {mg : Str → Option Value} {pB : Heap}
/-! ### the law's own texts -/
abbrev sLTx : Stmt := top 18
theorem scLTx : FnScope ["_law_thing", "_law_found", "_law_one"] ["_law_thing"] (defScope sLTx) := ⟨rfl, rfl, rfl, by decide +kernel, rfl, by decide +kernel, by decide +kernel⟩
theorem step_ltx {f : Addr} {fd : FuncData} (F : Fun K "_law_texts" "_law_texts" sLTx f fd) (n : Nat) (G : FnOk P w K mg pB CX0 (n + 1) f fd ["_law_thing"] (spPrevT n)) (mG : mg "_law_texts" = some (.ref f)) (bG : Binds K fd ["_law_thing"] [])
    (mI : mg "isinstance" = none) (mS : mg "str" = none) (mT : mg "tuple" = none) (mInt : mg "int" = none) : FnOk P w K mg pB CX0 (n + 2) f fd ["_law_thing"] (spTx n) := by
  refine F.ok scLTx (fun vs H Q E h => ?_) (fun cdv A outer s H vs Q E hr h => ?_)
  · obtain ⟨m, v, d, rfl, _⟩ := h
    rfl
  · obtain ⟨m, v, d, rfl, hR, hw, hz, k⟩ := h
    have nd := scLTx.nd
    refine ⟨_, pss_cons (ps_if (pt_val (pe_callB call_isi (by rfl) mI (by decide +kernel) (pa_cons (pv 0) (pa_cons (pe_bltn (by rfl) mT (by decide +kernel) (show RelV (.ty "tuple") (.type "tuple") from rfl)) pa_nil))))
        (pss_cons (ps_set (i := 1) nd rfl (Or.inl rfl) (pe_lst pa_nil))
        (pss_cons (ps_for PassesOwn.never rfl (pi_tup (pv 0)) (pg_name (i := 2) nd rfl (Or.inl rfl))
          (pss_one (ps_set (i := 1) nd rfl (Or.inl rfl) (pe_op op_cat (pv 1) (pe_call G hr rfl mG F.kp bG .nil pass0 (pa_cons (pv 2) pa_nil))))))
        (pss_one (ps_ret (pv 1))))) pss_nil)
      (pss_one (ps_ret (pe_op op_rep (pe_lst (pa_cons (pv 0) pa_nil)) (pe_callTy call_int1 (by rfl) mInt (by decide +kernel) (pa_cons
        (pe_callB call_isi (by rfl) mI (by decide +kernel) (pa_cons (pv 0) (pa_cons (pe_bltn (by rfl) mS (by decide +kernel) (show RelV (.ty "str") (.type "str") from rfl)) pa_nil))) pa_nil))))), ?_⟩
    refine rd_isi (.inr (.inr (.inr rfl))) rfl hR ⟨_, rfl, ?_⟩
    rcases @notTup d with ⟨ds, rfl⟩ | hn
    · refine iteB1 rfl ?_
      obtain ⟨m', a, xs, rfl, rfl, ha, hp2⟩ := rep_tup hR
      obtain ⟨n', rfl, _, hws⟩ := isW_tup hw
      have hlen := Paired.length hp2
      have hzs : szL ds ≤ 1000000 := by rw [szD] at hz; omega
      refine asg_n (lst_of ⟨Nat.zero_le _, fun p hp => ?_⟩)
      have s1 : Same H (L2.upd H p (.lst [])) := Same.new (Same.refl _) hp
      refine ⟨_, rfl, a, rfl, ⟨_, SqT.of (s1 _ _ ha)⟩, for_tup (xs := xs) (fun j σ H3 => ∃ (x2 : Option V) (p : Addr), σ = [some (.ref a), some (.ref p), x2] ∧ Same H H3 ∧ H p = none ∧ H3 p = some (.lst ((txL (ds.take j)).map V.str))) ⟨none, p, rfl, s1, hp, upd_same⟩ ?_ ?_ ?_⟩
      · rintro j σ H3 _ ⟨x2, p, rfl, s3, _⟩
        exact SqT.of (s3 _ _ ha)
      · rintro j y σ H3 hy ⟨x2, p, rfl, s3, hpn, c3⟩
        obtain ⟨e, he, hre⟩ := Paired.at hp2 hy
        have hsz : szD e ≤ 1000000 := Nat.le_trans (szL_get he) hzs
        have b1 : txL (ds.take (j + 1)) = txL (ds.take j) ++ txD e := by
          rw [take_snoc he, txL_app, txL, txL, List.append_nil]
        have b2 := txL_le (ds.take (j + 1))
        have b3 := szL_take ds (j + 1)
        rw [b1, List.length_append] at b2
        refine asg_1 ⟨_, rfl, call_of (sp := spTx n') ⟨_, rfl, m', y, e, rfl, hre.same s3, hws e (List.mem_of_getElem? he), hsz, fun q H4 s4 hq c4 => ?_⟩⟩
        refine ⟨p, q, _, _, rfl, rfl, s4 _ _ c3, c4, by rw [List.length_map, List.length_map]; exact Nat.le_trans (show _ ≤ 1000000 by omega) (by decide), fun r hr => ⟨_, r, rfl, (s3.trans s4).trans (Same.new (Same.refl _) hr), fresh_of (s3.trans s4) hr, ?_⟩⟩
        rw [upd_same, b1, List.map_append]
      · rintro σ H3 ⟨x2, p, rfl, s3, hpn, c3⟩
        rw [hlen, List.take_length] at c3
        exact ⟨_, rfl, k p H3 s3 hpn c3⟩
    · refine iteB0 (by cases d <;> first | rfl | exact absurd rfl (hn _)) ?_
      refine ⟨_, rfl, by show 1 ≤ sizeLine; decide, fun p hp => ?_⟩
      have s1 : Same H (L2.upd H p (.lst [v])) := Same.new (Same.refl _) hp
      refine rd_isi (.inl rfl) rfl (hR.same s1) (.inr ⟨_, rfl, p, _, [v], rfl, rfl, upd_same, ?_, ?_, ?_, fun q hq => k q _ (s1.trans (Same.new (Same.refl _) hq)) (fresh_of s1 hq) ?_⟩)
      · split <;> decide
      · split <;> decide
      · show 1 * Int.toNat _ ≤ sizeLine
        split <;> decide
      · rw [upd_same]
        by_cases hst : ∃ x, d = .str x
        · obtain ⟨x, rfl⟩ := hst
          cases rep_str hR
          rfl
        · have e : txD d = [] := by cases d <;> first | rfl | exact absurd rfl (hn _) | exact absurd ⟨_, rfl⟩ hst
          have e2 : isTy "str" d = false := by cases d <;> first | rfl | exact absurd ⟨_, rfl⟩ hst
          rw [e, e2]
          rfl
theorem ok_ltx {f : Addr} {fd : FuncData} (F : Fun K "_law_texts" "_law_texts" sLTx f fd) (mG : mg "_law_texts" = some (.ref f)) (bG : Binds K fd ["_law_thing"] [])
    (mI : mg "isinstance" = none) (mS : mg "str" = none) (mT : mg "tuple" = none) (mInt : mg "int" = none) : ∀ n, FnOk P w K mg pB CX0 (n + 2) f fd ["_law_thing"] (spTx n)
  | 0 => step_ltx F 0 ok_bot mG bG mI mS mT mInt
  | n + 1 => step_ltx F (n + 1) (ok_ltx F mG bG mI mS mT mInt n) mG bG mI mS mT mInt
end
end My

set_option Elab.async false
set_option linter.all false
set_option maxRecDepth 100000
set_option maxHeartbeats 4000000
namespace My
open PySem L2
section
variable {P : Program} {w : World} {K : PySem.W.Frag} {mg : Str → Option Value} {pB : Heap}
/-! ### the law's own count of deeds and words -/
theorem par3_of {ta : TA} {i j l : Nat} {b : TS} {D : Ends} {σ : L2.St} {H : Hp} (h : ta σ H fun vs H1 => ∃ u v w, vs = [u, v, w] ∧ b D (((σ.set i (some u)).set j (some v)).set l (some w)) H1) : tSeq (tPar3 i j l ta) b D σ H := h
def spLC (n : Nat) : Sp := fun vs H Q _ => ∃ (m : Nat) (v : V) (d : PyData) (c : Nat), vs = [v] ∧ Rep H m v d ∧ cnt n d = some c ∧ szD d ≤ 1000000 ∧
  ∀ (t p : Addr) (H' : Hp), Same H H' → H p = none → H' t = some (.tup [.int (c : Int), .ref p]) → H' p = some (.lst ((wds n d).map V.str)) → Q (.ref t) H'
def spPrevL : Nat → Sp
  | 0 => spBot
  | n + 1 => spLC n
abbrev sLC : Stmt := top 19
abbrev nLC : List Str := ["_law_todo", "_law_many", "_law_found", "_law_forms_here", "_law_deed", "_law_kind", "_law_part_here", "_law_inner"]
theorem scLC : FnScope nLC ["_law_todo"] (defScope sLC) := ⟨rfl, rfl, rfl, by decide +kernel, rfl, by decide +kernel, by decide +kernel⟩
theorem step_lc {f fF fT : Addr} {fd dF dT : FuncData} (F : Fun K "_law_counted" "_law_counted" sLC f fd) (n : Nat) (G : FnOk P w K mg pB CX0 (n + 6) f fd ["_law_todo"] (spPrevL n)) (mG : mg "_law_counted" = some (.ref f)) (bG : Binds K fd ["_law_todo"] [])
    (GF : FnOk P w K mg pB CX0 1 fF dF [] spForms) (mF : mg "_law_forms" = some (.ref fF)) (kF : PySem.W.keepIn K (.ref fF) = true) (bF : Binds K dF [] [])
    (GT : FnOk P w K mg pB CX0 6 fT dT ["_law_thing"] (spTx 4)) (mT : mg "_law_texts" = some (.ref fT)) (kT : PySem.W.keepIn K (.ref fT) = true) (bT : Binds K dT ["_law_thing"] [])
    (mZ : mg "zip" = none) : FnOk P w K mg pB CX0 (n + 7) f fd ["_law_todo"] (spLC n) := by
  refine F.ok scLC (fun vs H Q E h => ?_) (fun cdv A outer s H vs Q E hr h => ?_)
  · obtain ⟨m, v, d, c, rfl, _⟩ := h
    rfl
  · obtain ⟨m, v, d, c, rfl, hR, hc, hz, k⟩ := h
    have nd := scLC.nd
    have hr1 : Room 1 _ := hr.mono (by omega)
    have hr6 : Room 6 _ := hr.mono (by omega)
    have hu := hu_of hr
    refine ⟨_, pss_cons (ps_par3 (by rfl) nd (i := 1) (j := 2) (l := 3) rfl rfl rfl (by decide) (by decide) (by decide) rfl rfl rfl (pa_cons pe_int (pa_cons (pe_lst pa_nil) (pa_cons (pe_call0 GF hr1 rfl mF kF bF .nil pass0) pa_nil))) (by rfl))
      (pss_cons (ps_for PassesOwn.never rfl (pi_tup (pv 0)) (pg_name (i := 4) nd rfl (Or.inl rfl))
        (pss_cons (ps_set (i := 1) nd rfl (Or.inl rfl) (pe_op op_add (pv 1) pe_int))
        (pss_one (ps_for PassesOwn.never rfl (pi_zipS (by rfl) mZ (pa_cons (pe_dget hu (pv 3) (pe_ix ix_tup (pv 4) pe_int (fun _ _ => rfl)) (fun _ _ => rfl)) (pa_cons (pe_slice sl_tupA (pv 4) (po_some pe_int) po_none) pa_nil)))
          (pg_tup (by rfl) (pgs_cons (pg_name (i := 5) nd rfl (Or.inl rfl)) (pgs_cons (pg_name (i := 6) nd rfl (Or.inl rfl)) pgs_nil)))
          (pss_one (ps_if (PW.pt (pw_and (pt_cmpR op_in_sign (pv 5) pe_str rfl) (pw_and1 (pt_cmp (pc_notN (pv 6))))))
            (pss_cons (ps_set (i := 7) nd rfl (Or.inl rfl) (pe_call G hr rfl mG F.kp bG .nil pass0 (pa_cons (pv 6) pa_nil)))
            (pss_one (ps_par (by rfl) nd (i := 1) (j := 2) rfl rfl (by decide) rfl rfl (pa_cons (pe_op op_add (pv 1) (pe_ix ix_tup (pv 7) pe_int (fun _ _ => rfl))) (pa_cons (pe_op op_cat (pv 2) (pe_ix ix_tup (pv 7) pe_int (fun _ _ => rfl))) pa_nil)) (by rfl))))
            (pss_one (ps_if (pt_cmpR op_in_sign (pv 5) pe_str rfl) (pss_one (ps_set (i := 2) nd rfl (Or.inl rfl) (pe_op op_cat (pv 2) (pe_call GT hr6 rfl mT kT bT .nil pass0 (pa_cons (pv 6) pa_nil))))) pss_nil))))))))
      (pss_one (ps_ret (pe_tup (pa_cons (pv 1) (pa_cons (pv 2) pa_nil)))))), ?_⟩
    cases n with
    | zero => cases hc
    | succ n =>
    obtain ⟨ds, rfl⟩ : ∃ ds, d = .tuple ds := by cases d <;> first | exact ⟨_, rfl⟩ | cases hc
    obtain ⟨m', a, xs, rfl, rfl, ha, hp⟩ := rep_tup hR
    have hlen := Paired.length hp
    have hzs : szL ds ≤ 1000000 := by rw [szD] at hz; omega
    rw [cnt] at hc
    obtain ⟨b, hb, rfl⟩ := Option.map_eq_some_iff.mp hc
    obtain ⟨cs, ecs, hcs⟩ := sumO_some hb
    have hlc : cs.length = ds.length := by have := congrArg List.length ecs; rw [List.length_map, List.length_map] at this; omega
    have dle := deedW_le (wds_le n)
    refine par3_of ⟨Nat.zero_le _, fun R hR0 => ⟨rfl, fun Fm J1 sJ cF1 => ⟨_, _, _, rfl, ?_⟩⟩⟩
    have cR1 : J1 R = some (.lst []) := sJ _ _ upd_same
    have s01 : Same H J1 := (Same.new (Same.refl _) hR0).trans sJ
    have ca1 := s01 _ _ ha
    refine ⟨_, rfl, a, rfl, ⟨_, SqT.of ca1⟩, for_tup (xs := xs) (fun j σ H3 => ∃ (p : Addr) (x4 x5 x6 x7 : Option V), σ = [some (.ref a), some (.int ((j : Int) + ((cs.take j).sum : Nat))), some (.ref p), some (.ref Fm), x4, x5, x6, x7] ∧ Same J1 H3 ∧ H p = none ∧ H3 p = some (.lst (((ds.take j).map (deedW (wds n))).flatten.map V.str))) ⟨R, none, none, none, none, rfl, Same.refl _, hR0, cR1⟩ ?_ ?_ ?_⟩
    · rintro j σ H3 _ ⟨p, x4, x5, x6, x7, rfl, s3, _⟩
      exact SqT.of (s3 _ _ ca1)
    · rintro j y σ H3 hy ⟨p, x4, x5, x6, x7, rfl, s3, hpn, c3⟩
      obtain ⟨e, he, hre⟩ := Paired.at hp hy
      have hj : j < ds.length := (List.getElem?_eq_some_iff.mp he).1
      have hcj : cs[j]? = some cs[j] := List.getElem?_eq_getElem (by omega)
      generalize cs[j] = g at hcj
      have hde : deedB (cnt n) e = some g := by
        have := congrArg (fun l : List (Option Nat) => l[j]?) ecs
        simp only [List.getElem?_map, he, hcj, Option.map_some] at this
        exact Option.some.inj this
      obtain ⟨x, ps, ks, rfl, hf, hl, hsm⟩ := deedB_some hde
      obtain ⟨bs, ebs, hbs⟩ := sumO_some hsm
      have hsz := Nat.le_trans (szL_get he) hzs
      have hzp : szL ps ≤ 1000000 := by rw [szD, szL] at hsz; omega
      obtain ⟨m2, t, zs', rfl, rfl, ht, hpz'⟩ := rep_tup hre
      cases hpz' with
      | @cons z0 e0 zs es hx0 hpz =>
      cases rep_str hx0
      have hlz := Paired.length hpz
      have sH3 := s01.trans s3
      have ht3 := sH3 _ _ ht
      have w1 := flat_le dle (ds.take j)
      have w2 := szL_take ds j
      generalize hW : ((ds.take j).map (deedW (wds n))).flatten = W at c3 w1
      have hgk : DGet H3 Fm (.str x) (some (.str (ksignS ks))) := by
        have h := DGet.k (k := (Sum.inr x : Key)) (s3 _ _ cF1)
        rw [val_form, hf] at h
        exact h
      have hkl : (ksignS ks).cps.size = ks.length := by
        show (ks.map ksign).toArray.size = _
        rw [List.size_toArray, List.length_map]
      have hat : atI (V.str x :: zs) 0 = some (.str x) := atI_nat (xs := V.str x :: zs) (j := 0) (v := .str x) rfl
      refine asg_n ⟨_, rfl, _, _, rfl, rfl, ?_⟩
      refine ⟨_, rfl, _, rfl, t, _, 0, _, rfl, rfl, SqT.of ht3, hat, Fm, _, rfl, hgk, _, rfl, _, rfl, np_of (rd_slT ht3 fun p2 H5 s5 c5 => ?_)⟩
      rw [cut_from _ (by decide) (by rw [List.length_cons]; omega)] at c5
      have c5 : H5 p2 = some (.tup zs) := c5
      have hpz5 : Paired (Rep H5 m2) zs ps := Paired.mapP hpz fun _ _ z => (z.same sH3).same s5
      have hcz : (ksignS ks).cps.size = zs.length := by omega
      refine ⟨ksignS ks, p2, zs, rfl, SqT.of c5, for_zipS hcz (fun i σ H6 => ∃ (p : Addr) (x5 x6 x7 : Option V), σ = [some (.ref a), some (.int ((j : Int) + ((cs.take j).sum : Nat) + 1 + ((bs.take i).sum : Nat))), some (.ref p), some (.ref Fm), some (.ref t), x5, x6, x7] ∧ Same H5 H6 ∧ H p = none ∧ H6 p = some (.lst ((W ++ (List.zipWith (partW (wds n)) (ks.take i) (ps.take i)).flatten).map V.str))) ?_ ?_ ?_ ?_⟩
      · refine ⟨p, x5, x6, x7, ?_, Same.refl _, hpn, ?_⟩
        · rw [List.take_zero]
          show _ = [_, some (V.int ((j : Int) + ((cs.take j).sum : Nat) + 1 + 0)), _, _, _, _, _, _]
          rw [Int.add_zero]
          rfl
        · rw [List.take_zero, List.zipWith_nil_left, List.flatten_nil, List.append_nil]
          exact s5 _ _ c3
      · rintro i σ H6 ⟨p, x5, x6, x7, rfl, s6, _⟩
        exact SqT.of (s6 _ _ c5)
      · rintro i cc u T σ H6 hci hui ⟨p, x5, x6, x7, rfl, s6, hpn, c6⟩ hTn
        have hki : ∃ kd, ks[i]? = some kd ∧ cc = ksign kd := by
          have e1 : (ks.map ksign)[i]? = some cc := by rw [← hci]; simp [ksignS]
          rw [List.getElem?_map] at e1
          obtain ⟨kd, q1, q2⟩ := Option.map_eq_some_iff.mp e1
          exact ⟨kd, q1, q2.symm⟩
        obtain ⟨kd, hkd, rfl⟩ := hki
        obtain ⟨e', he', hre'⟩ := Paired.at hpz5 hui
        have s7 : Same H6 (upd H6 T (.tup [.str ⟨#[ksign kd]⟩, u])) := Same.new (Same.refl _) hTn
        have cT : (upd H6 T (.tup [.str ⟨#[ksign kd]⟩, u])) T = some (.tup [.str ⟨#[ksign kd]⟩, u]) := upd_same
        generalize upd H6 T (.tup [.str ⟨#[ksign kd]⟩, u]) = H7 at s7 cT ⊢
        have hre7 := (hre'.same s6).same s7
        have c7 := s7 _ _ c6
        have s57 := s6.trans s7
        have hsz' : szD e' ≤ 1000000 := Nat.le_trans (szL_get he') hzp
        have t3 : decide (ksign kd ∈ (Str.ofString "Ss").cps.toList) = isScr kd := by cases kd <;> decide +kernel
        have t5 : decide (ksign kd ∈ (Str.ofString "wvn").cps.toList) = decide (kd = .w ∨ kd = .v ∨ kd = .n) := by cases kd <;> decide +kernel
        have zn : (List.zipWith (partW (wds n)) (ks.take (i + 1)) (ps.take (i + 1))).flatten = (List.zipWith (partW (wds n)) (ks.take i) (ps.take i)).flatten ++ partW (wds n) kd e' := by
          have h1 := (List.getElem?_eq_some_iff.mp hkd).1
          have h2 := (List.getElem?_eq_some_iff.mp he').1
          rw [take_snoc hkd, take_snoc he', List.zipWith_append (by rw [List.length_take, List.length_take]; omega), List.flatten_append]
          show _ ++ (partW (wds n) kd e' ++ []) = _
          rw [List.append_nil]
        have hbl : bs.length = ks.length := by have := congrArg List.length ebs; rw [List.length_map, List.length_zipWith] at this; omega
        have hi : i < ks.length := (List.getElem?_eq_some_iff.mp hkd).1
        have hbi : bs[i]? = some bs[i] := List.getElem?_eq_getElem (by omega)
        generalize bs[i] = gi at hbi
        have hpB : partB (cnt n) kd e' = some gi := by
          have hL : (List.zipWith (partB (cnt n)) ks ps)[i]? = some (partB (cnt n) kd e') := by rw [List.getElem?_zipWith, hkd, he']
          rw [ebs, List.getElem?_map, hbi] at hL
          exact (Option.some.inj hL).symm
        have a1 := zip_le (partW_le (wds_le n)) (ks.take i) (ps.take i)
        have a2 := szL_take ps i
        have a3 := txD_le e'
        have a4 := wds_le n e'
        refine ⟨T, _, rfl, SqT.of cT, rfl, _, _, rfl, _, _, rfl, rfl, ?_⟩
        have stay : gi = 0 → partW (wds n) kd e' = [] → ∃ (p' : Addr) (x5 x6 x7' : Option V), [some (.ref a), some (.int ((j : Int) + ((cs.take j).sum : Nat) + 1 + ((bs.take i).sum : Nat))), some (.ref p), some (.ref Fm), some (.ref t), some (.str ⟨#[ksign kd]⟩), some u, x7] = [some (V.ref a), some (.int ((j : Int) + ((cs.take j).sum : Nat) + 1 + ((bs.take (i + 1)).sum : Nat))), some (.ref p'), some (.ref Fm), some (.ref t), x5, x6, x7'] ∧ Same H5 H7 ∧ H p' = none ∧ H7 p' = some (.lst ((W ++ (List.zipWith (partW (wds n)) (ks.take (i + 1)) (ps.take (i + 1))).flatten).map V.str)) := fun h0 h1 => by
          refine ⟨p, some (.str ⟨#[ksign kd]⟩), some u, x7, ?_, s57, hpn, ?_⟩
          · rw [take_snoc hbi, List.sum_append, h0]
            rfl
          · rw [zn, h1, List.append_nil]; exact c7
        refine ⟨_, rfl, ksign kd, _, rfl, rfl, _, rfl, ?_⟩
        rcases Bool.eq_false_or_eq_true (isScr kd) with hk | hk
        · refine iteB1 (t3.trans hk) ⟨_, rfl, _, rfl, ?_⟩
          rw [rep_nonn hre7]
          unfold partB at hpB
          rw [if_pos hk] at hpB
          rcases Bool.eq_false_or_eq_true (isNon e') with hno | hno
          · refine iteB0 (by rw [hno]; rfl) ?_
            refine ⟨_, rfl, ksign kd, _, rfl, rfl, _, rfl, iteB0 (by rw [t5]; cases kd <;> first | rfl | cases hk) ?_⟩
            refine stay ?_ (by rw [partW, if_pos hk, if_pos hno])
            by_cases hs : kd = .s ∧ isNon e' = true
            · rw [if_pos hs] at hpB; cases hpB; rfl
            · rw [if_neg hs] at hpB
              exact absurd (cnt_tup hpB) (by rw [hno]; decide)
          · refine iteB1 (by rw [hno]; rfl) ?_
            rw [if_neg (fun z => by rw [hno] at z; exact absurd z.2 (by decide))] at hpB
            refine asg_n (call_of (sp := spLC n) ⟨_, rfl, m2, u, e', gi, rfl, hre7, hpB, hsz', fun t2 r H8 s8 hrn ct cr => ?_⟩)
            have c8 := s8 _ _ c7
            refine ⟨_, rfl, _, rfl, t2, _, 0, _, rfl, rfl, SqT.of ct, atI_nat (xs := [V.int (gi : Int), V.ref r]) (j := 0) (v := .int gi) rfl, _, _, rfl, rfl, ?_⟩
            refine ⟨_, rfl, _, rfl, t2, _, 1, _, rfl, rfl, SqT.of ct, atI_nat (xs := [V.int (gi : Int), V.ref r]) (j := 1) (v := .ref r) rfl, p, r, _, _, rfl, rfl, c8, cr, ?_, fun r2 hr2 => ?_⟩
            · rw [List.length_map, List.length_map, List.length_append]
              exact Nat.le_trans (show _ ≤ 4000000 by omega) (by decide)
            · have s9 : Same H8 (upd H8 r2 (.lst (List.map V.str (W ++ (List.zipWith (partW (wds n)) (ks.take i) (ps.take i)).flatten) ++ List.map V.str (wds n e')))) := Same.new (Same.refl _) hr2
              refine ⟨_, _, rfl, r2, some (.str ⟨#[ksign kd]⟩), some u, some (.ref t2), ?_, s57.trans (s8.trans s9), ?_, ?_⟩
              · rw [take_snoc hbi, List.sum_append]
                show [_, some (V.int ((j : Int) + ((cs.take j).sum : Nat) + 1 + ((bs.take i).sum : Nat) + (gi : Int))), _, _, _, _, _, _] = _
                rw [show (j : Int) + ((cs.take j).sum : Nat) + 1 + ((bs.take i).sum : Nat) + (gi : Int) = (j : Int) + ((cs.take j).sum : Nat) + 1 + (((bs.take i).sum + [gi].sum : Nat) : Int) by simp; omega]
              · exact fresh_of (sH3.trans (s5.trans (s57.trans s8))) hr2
              · rw [upd_same, zn, partW_scr hk hno, ← List.map_append, List.append_assoc]
        · refine iteB0 (t3.trans hk) (iteF ?_)
          have hpB' := hpB
          unfold partB at hpB
          rw [if_neg (by rw [hk]; decide)] at hpB
          have hok : partOk kd e' = true := by
            by_cases ho : partOk kd e' = true
            · exact ho
            · rw [if_neg ho] at hpB; cases hpB
          rw [if_pos hok] at hpB
          have hg0 : gi = 0 := by cases hpB; rfl
          refine ⟨_, rfl, ksign kd, _, rfl, rfl, _, rfl, ?_⟩
          by_cases hwv : kd = .w ∨ kd = .v ∨ kd = .n
          · refine iteB1 (by rw [t5]; exact decide_eq_true hwv) ?_
            refine asg_1 ⟨_, rfl, call_of ⟨_, rfl, m2, u, e', rfl, hre7, part_isW hok, hsz', fun r H8 s8 hrn cr => ?_⟩⟩
            refine ⟨p, r, _, _, rfl, rfl, s8 _ _ c7, cr, ?_, fun r2 hr2 => ?_⟩
            · rw [List.length_map, List.length_map, List.length_append]
              exact Nat.le_trans (show _ ≤ 4000000 by omega) (by decide)
            · refine ⟨r2, some (.str ⟨#[ksign kd]⟩), some u, x7, ?_, s57.trans (s8.trans (Same.new (Same.refl _) hr2)), fresh_of (sH3.trans (s5.trans (s57.trans s8))) hr2, ?_⟩
              · rw [take_snoc hbi, List.sum_append, hg0]
                rfl
              · rw [upd_same, zn, partW_leaf hk, ← List.map_append, List.append_assoc]
          · refine iteB0 (by rw [t5]; exact decide_eq_false hwv) ?_
            exact stay hg0 (by rw [partW_leaf hk]; exact tx_none hok (fun z => hwv (.inl z)) (fun z => hwv (.inr (.inl z))) (fun z => hwv (.inr (.inr z))))
      · rintro σ H6 ⟨p, x5, x6, x7, rfl, s6, hpn, c6⟩
        have hbl : bs.length = ks.length := by have := congrArg List.length ebs; rw [List.length_map, List.length_zipWith] at this; omega
        rw [List.take_of_length_le (by omega), List.take_of_length_le (by omega)] at c6
        have en : ((ds.take (j + 1)).map (deedW (wds n))).flatten = W ++ (List.zipWith (partW (wds n)) ks ps).flatten := by
          rw [take_snoc he, List.map_append, List.flatten_append, hW]
          show _ ++ (deedW (wds n) (.tuple (.str x :: ps)) ++ []) = _
          rw [List.append_nil, deedW_form hf]
        refine ⟨p, some (.ref t), x5, x6, x7, ?_, s3.trans (s5.trans s6), hpn, by rw [en]; exact c6⟩
        rw [show bs.take zs.length = bs from List.take_of_length_le (by omega), hbs, take_snoc hcj, List.sum_append]
        rw [show (j : Int) + ((cs.take j).sum : Nat) + 1 + (g : Int) = ((j + 1 : Nat) : Int) + (((cs.take j).sum + [g].sum : Nat) : Int) by simp; omega]
    · rintro σ H3 ⟨p, x4, x5, x6, x7, rfl, s3, hpn, c3⟩
      rw [hlen, List.take_length] at c3
      rw [List.take_of_length_le (by omega), hcs]
      refine ⟨_, rfl, _, rfl, by show 2 ≤ sizeLine; decide, fun tq htq => ?_⟩
      have s4 : Same H3 (upd H3 tq (.tup [.int ((xs.length : Int) + (b : Int)), .ref p])) := Same.new (Same.refl _) htq
      refine k tq p _ (s01.trans (s3.trans s4)) hpn ?_ (by rw [wds]; exact s4 _ _ c3)
      rw [upd_same, show ((ds.length + b : Nat) : Int) = (xs.length : Int) + (b : Int) by omega]
theorem ok_lc {f fF fT : Addr} {fd dF dT : FuncData} (F : Fun K "_law_counted" "_law_counted" sLC f fd) (mG : mg "_law_counted" = some (.ref f)) (bG : Binds K fd ["_law_todo"] [])
    (GF : FnOk P w K mg pB CX0 1 fF dF [] spForms) (mF : mg "_law_forms" = some (.ref fF)) (kF : PySem.W.keepIn K (.ref fF) = true) (bF : Binds K dF [] [])
    (GT : FnOk P w K mg pB CX0 6 fT dT ["_law_thing"] (spTx 4)) (mT : mg "_law_texts" = some (.ref fT)) (kT : PySem.W.keepIn K (.ref fT) = true) (bT : Binds K dT ["_law_thing"] [])
    (mZ : mg "zip" = none) : ∀ n, FnOk P w K mg pB CX0 (n + 7) f fd ["_law_todo"] (spLC n)
  | 0 => step_lc F 0 ok_bot mG bG GF mF kF bF GT mT kT bT mZ
  | n + 1 => step_lc F (n + 1) (ok_lc F mG bG GF mF kF bF GT mT kT bT mZ n) mG bG GF mF kF bF GT mT kT bT mZ
end
end My

set_option Elab.async false
set_option linter.all false
set_option maxRecDepth 100000
set_option maxHeartbeats 4000000
namespace My
open PySem L2
/-! ### all that is counted is a word -/
theorem tx_wd : ∀ (n : Nat) {d : PyData}, isW n d = true → ∀ x ∈ txD d, isWd x = true := by
  have leaf : ∀ {n : Nat} {d : PyData}, (∀ ds, d ≠ .tuple ds) → isW n d = true → ∀ x ∈ txD d, isWd x = true := by
    intro n d hn h x hx
    rw [isW_leaf hn] at h
    cases d with
    | str y => rw [txD] at hx; rw [List.mem_singleton.mp hx]; exact h
    | tuple ds => exact absurd rfl (hn ds)
    | _ => cases hx
  intro n
  induction n with
  | zero =>
    intro d h
    rcases @notTup d with ⟨ds, rfl⟩ | hn
    · cases h
    · exact leaf hn h
  | succ n ih =>
    intro d h
    rcases @notTup d with ⟨ds, rfl⟩ | hn
    · rw [isW, Bool.and_eq_true, List.all_eq_true] at h
      have key : ∀ ds : List PyData, (∀ e ∈ ds, isW n e = true) → ∀ x ∈ txL ds, isWd x = true := by
        intro ds
        induction ds with
        | nil => exact fun _ x hx => nomatch hx
        | cons e ds ih2 =>
          intro hw x hx
          rw [txL] at hx
          rcases List.mem_append.mp hx with hx | hx
          · exact ih (hw e (List.mem_cons_self ..)) x hx
          · exact ih2 (fun y hy => hw y (List.mem_cons_of_mem _ hy)) x hx
      rw [txD]
      exact key ds h.2
    · exact leaf hn h
theorem part_wd {f : PyData → Option Nat} {g : PyData → List Str} (hfg : ∀ d c, f d = some c → ∀ x ∈ g d, isWd x = true) : ∀ (ks : List Kd) (ps : List PyData) (c : Nat), sumO (List.zipWith (partB f) ks ps) = some c → ∀ x ∈ (List.zipWith (partW g) ks ps).flatten, isWd x = true
  | [], _, _, _, x, hx => nomatch hx
  | _ :: _, [], _, _, x, hx => nomatch hx
  | k :: ks, p :: ps, c, h, x, hx => by
    rw [List.zipWith_cons_cons] at h hx
    rw [List.flatten_cons] at hx
    cases hb : partB f k p with
    | none => rw [hb] at h; cases h
    | some a =>
      rw [hb] at h
      obtain ⟨b, hb2, _⟩ := Option.map_eq_some_iff.mp (show (sumO (List.zipWith (partB f) ks ps)).map (a + ·) = some c from h)
      rcases List.mem_append.mp hx with hx | hx
      · unfold partB at hb
        unfold partW at hx
        by_cases hk : isScr k = true
        · rw [if_pos hk] at hb hx
          by_cases hn : isNon p = true
          · rw [if_pos hn] at hx; cases hx
          · rw [if_neg hn] at hx
            rw [if_neg (fun z => hn z.2)] at hb
            exact hfg p a hb x hx
        · rw [if_neg hk] at hb hx
          by_cases ho : partOk k p = true
          · exact tx_wd 4 (part_isW ho) x hx
          · rw [if_neg ho] at hb; cases hb
      · exact part_wd hfg ks ps b hb2 x hx
theorem wds_wd : ∀ (n : Nat) (d : PyData) (c : Nat), cnt n d = some c → ∀ x ∈ wds n d, isWd x = true
  | 0, _, _, h => by cases h
  | n + 1, d, c, h => by
    cases d with
    | tuple ds =>
      rw [cnt] at h
      obtain ⟨b, hb, _⟩ := Option.map_eq_some_iff.mp h
      obtain ⟨cs, ecs, _⟩ := sumO_some hb
      intro x hx
      rw [wds] at hx
      obtain ⟨l, hl, hx⟩ := List.mem_flatten.mp hx
      obtain ⟨e, he, rfl⟩ := List.mem_map.mp hl
      have hm : deedB (cnt n) e ∈ ds.map (deedB (cnt n)) := List.mem_map_of_mem he
      rw [ecs] at hm
      obtain ⟨g, _, hg⟩ := List.mem_map.mp hm
      obtain ⟨y, ps, ks, rfl, hf, hl', hs⟩ := deedB_some hg.symm
      rw [deedW_form hf] at hx
      exact part_wd (wds_wd n) ks ps g hs x hx
    | _ => cases h
/-! ### a list of words, as it is shown and held against another -/
theorem sh_all : ∀ ss : List Str, PyData.showableAll (ss.map PyData.str) = true
  | [] => rfl
  | s :: ss => by rw [List.map_cons, PyData.showableAll, sh_all ss]; rfl
theorem hd_all : ∀ ss : List Str, PyData.hasDictAll (ss.map PyData.str) = false
  | [] => rfl
  | s :: ss => by rw [List.map_cons, PyData.hasDictAll, hd_all ss]; rfl
theorem dp_all0 : ∀ ss : List Str, PyData.depthAll (ss.map PyData.str) = 0
  | [] => rfl
  | s :: ss => by rw [List.map_cons, PyData.depthAll, dp_all0 ss]; rfl
theorem shn_all : ∀ ss : List Str, PyData.shownAll (ss.map PyData.str) = ss.map reprText
  | [] => rfl
  | s :: ss => by rw [List.map_cons, PyData.shownAll, shn_all ss]; rfl
theorem lay_all : ∀ ss : List Str, (∀ x ∈ ss, isWd x = true) → PyData.canLayAll0 (ss.map PyData.str) = true
  | [], _ => rfl
  | s :: ss, h => by
    rw [List.map_cons, PyData.canLayAll0, lay_all ss fun x hx => h x (List.mem_cons_of_mem _ hx), (lay_w 0 (d := .str s) (h s (List.mem_cons_self ..))).1]; rfl
theorem rp_sum : ∀ ss : List Str, (∀ x ∈ ss, isWd x = true) → ((ss.map reprText).map (·.length)).sum ≤ 82 * ss.length
  | [], _ => Nat.le_refl _
  | s :: ss, h => by
    have h1 := rp_sum ss fun x hx => h x (List.mem_cons_of_mem _ hx)
    obtain ⟨a1, _, a3⟩ := isWd_let (h s (List.mem_cons_self ..))
    have h2 := StrLaws.reprText_len s fun c hc => Nat.lt_of_le_of_lt (a1 c hc).2 (by decide)
    rw [List.map_cons, List.map_cons, List.sum_cons, List.length_cons]
    omega
theorem shown_len {ss : List Str} (h : ∀ x ∈ ss, isWd x = true) (hl : ss.length ≤ 3900) : (PyData.list (ss.map PyData.str)).shown.length ≤ sizeLine := by
  rw [PyData.shown, shn_all]
  have h1 := listText_len_le (ss.map reprText)
  have h2 := rp_sum ss h
  rw [List.length_map] at h1
  exact Nat.le_trans (show _ ≤ 400000 by omega) (by decide)
theorem depth_l (ss : List Str) : (PyData.list (ss.map PyData.str)).depth = 1 := by rw [PyData.depth, dp_all0]
theorem shaped_l {ss : List Str} (h : ∀ x ∈ ss, isWd x = true) : SeqAt.shaped (.list (ss.map PyData.str)) = true := by
  unfold SeqAt.shaped
  rw [depth_l, PyData.canLay0, lay_all ss h]; rfl
theorem eqv_l {ss : List Str} (h : ∀ x ∈ ss, isWd x = true) : PyData.eqv (.list (ss.map PyData.str)) (.list (ss.map PyData.str)) = true :=
  SeqAt.eqv_refl _ (by rw [PyData.canLay0]; exact lay_all ss h)
theorem dpa_l {K : PySem.W.Frag} {H : Hp} : ∀ ss : List Str, DpAll K H (ss.map V.str) (ss.map PyData.str)
  | [] => .nil
  | s :: ss => .cons (.str s) (dpa_l ss)
theorem dp_l {K : PySem.W.Frag} {H : Hp} {p : Addr} {ss : List Str} (h : H p = some (.lst (ss.map V.str))) : Dp K H (.ref p) (.list (ss.map PyData.str)) := .lst (SqL.of h) (dpa_l ss)
end My

set_option Elab.async false
set_option linter.all false
set_option maxRecDepth 100000
set_option maxHeartbeats 4000000
namespace My
open PySem L2
theorem plan_new (v : Int) : mergeK [] [((Sum.inr "left" : Key), V.int v)] = planK v := by simp [mergeK, putK, planK]
section
variable {P : Program} {w : World} {K : PySem.W.Frag} {mg : Str → Option Value} {pB : Heap}
/-- a promise that is kept at every level up to five -/
def spU (sp : Nat → Sp) : Sp := fun vs H Q E => ∃ n, n ≤ 5 ∧ sp n vs H Q E
theorem ok_U {f : Addr} {fd : FuncData} {ps : List Str} {sp : Nat → Sp} {k : Nat} (G : ∀ n, FnOk P w K mg pB CX0 (n + k) f fd ps (sp n)) : FnOk P w K mg pB CX0 (5 + k) f fd ps (spU sp) :=
  ⟨fun vs H Q E ⟨n, _, h⟩ => (G n).len vs H Q E h, fun A outer s H args us vs Q E hr e0 hb r ⟨n, hn, h⟩ => (G n).run A outer s H args us vs Q E (hr.mono (by omega)) e0 hb r h⟩
def spScrU : Sp := fun vs H Q E => ∃ j, j ≤ 4 ∧ spScr j vs H Q E
theorem ok_scrU {f : Addr} {fd : FuncData} (G : ∀ j, FnOk P w K mg pB CX0 (2 * j + 8) f fd ["_law_held", "_law_plan", "_law_within"] (spScr j)) : FnOk P w K mg pB CX0 16 f fd ["_law_held", "_law_plan", "_law_within"] spScrU :=
  ⟨fun vs H Q E ⟨j, _, h⟩ => (G j).len vs H Q E h, fun A outer s H args us vs Q E hr e0 hb r ⟨j, hj, h⟩ => (G j).run A outer s H args us vs Q E (hr.mono (by omega)) e0 hb r h⟩
def spLaw (K : PySem.W.Frag) : Sp := fun vs H Q _ => ∃ (a : Addr) (ns : List Int), vs = [.ref a] ∧ SqL K H a (ns.map V.int) ∧ ∀ H', Q (.bl true) H'
abbrev sLaw : Stmt := top 20
abbrev nLaw : List Str := ["_law_cells", "_law_held", "_law_k", "_law_todo", "_law_many", "_law_words", "_law_due", "_law_found"]
theorem scLaw : FnScope nLaw ["_law_cells"] (defScope sLaw) := ⟨rfl, rfl, rfl, by decide +kernel, rfl, by decide +kernel, by decide +kernel⟩
theorem ok_law {f fP fD fS fL fC fW : Addr} {fd dP dD dS dL dC dW : FuncData} (F : Fun K "law" "law" sLaw f fd)
    (GP : FnOk P w K mg pB CX0 1 fP dP ["_law_cells"] (spPen K)) (mP : mg "_law_pen" = some (.ref fP)) (kP : PySem.W.keepIn K (.ref fP) = true) (bP : Binds K dP ["_law_cells"] [])
    (GD : FnOk P w K mg pB CX0 1 fD dD ["_law_held", "_law_many"] spDraw) (mD : mg "_law_draw" = some (.ref fD)) (kD : PySem.W.keepIn K (.ref fD) = true) (bD : Binds K dD ["_law_held", "_law_many"] [])
    (GS : FnOk P w K mg pB CX0 16 fS dS ["_law_held", "_law_plan", "_law_within"] spScrU) (mS : mg "_law_script" = some (.ref fS)) (kS : PySem.W.keepIn K (.ref fS) = true) (bS : Binds K dS ["_law_held", "_law_plan", "_law_within"] [])
    (GL : FnOk P w K mg pB CX0 12 fL dL ["_law_todo"] (spU spLC)) (mL : mg "_law_counted" = some (.ref fL)) (kL : PySem.W.keepIn K (.ref fL) = true) (bL : Binds K dL ["_law_todo"] [])
    (GC : FnOk P w K mg pB CX0 8 fC dC ["script"] (spU spCnt)) (mC : mg "deeds_in" = some (.ref fC)) (kC : PySem.W.keepIn K (.ref fC) = true) (bC : Binds K dC ["script"] []) (qC : KBinds K dC ["script"] ["script"] (fun us ws => us ++ ws) (fun us ws => us ++ ws))
    (GW : FnOk P w K mg pB CX0 13 fW dW ["script"] (spU spWin)) (mW : mg "words_in" = some (.ref fW)) (kW : PySem.W.keepIn K (.ref fW) = true) (bW' : Binds K dW ["script"] []) (qW : KBinds K dW ["script"] ["script"] (fun us ws => us ++ ws) (fun us ws => us ++ ws))
    (mR : mg "range" = none) (mRp : mg "repr" = none) (mSo : mg "sorted" = none) (mSe : mg "set" = none) : FnG P w K mg pB 17 f fd ["_law_cells"] (spLaw K) := by
  refine okG F scLaw (fun vs H Q E h => ?_) (fun cdv A outer s H vs Q E hg hr h => ?_)
  · obtain ⟨a, ns, rfl, _⟩ := h
    rfl
  · obtain ⟨a, ns, rfl, hS, k⟩ := h
    have nd := scLaw.nd
    have hr1 : Room 1 _ := hr.mono (by decide)
    have hr8 : Room 8 _ := hr.mono (by decide)
    have hr12 : Room 12 _ := hr.mono (by decide)
    have hr13 : Room 13 _ := hr.mono (by decide)
    refine ⟨_, pss_cons (ps_set (i := 1) nd rfl (Or.inl rfl) (pe_call GP hr1 rfl mP kP bP .nil pass0 (pa_cons (pv 0) pa_nil)))
      (pss_cons (ps_for PassesOwn.never rfl (pi_range1 rfl mR (pa_cons pe_int pa_nil)) (pg_name (i := 2) nd rfl (Or.inl rfl))
        (pss_cons (ps_set (i := 3) nd rfl (Or.inl rfl) (pe_call GS hr rfl mS kS bS .nil pass0 (pa_cons (pv 1) (pa_cons
            (pe_disp (pps_cons pe_str (pe_ix ix_list (pe_lst (pa_cons pe_int (pa_cons pe_int (pa_cons pe_int pa_nil)))) (pe_call GD hr1 rfl mD kD bD .nil pass0 (pa_cons (pv 1) (pa_cons pe_int pa_nil))) (fun _ _ => rfl)) pps_nil) (by rfl) (by rfl) (fun z => by cases z) (by decide))
            (pa_cons (pe_op op_add pe_int (pe_call GD hr1 rfl mD kD bD .nil pass0 (pa_cons (pv 1) (pa_cons pe_int pa_nil)))) pa_nil)))))
        (pss_cons (ps_asg (pe_call GL hr12 rfl mL kL bL .nil pass0 (pa_cons (pv 3) pa_nil)) (pg_tup rfl (pgs_cons (pg_name (i := 4) nd rfl (Or.inl rfl)) (pgs_cons (pg_name (i := 5) nd rfl (Or.inl rfl)) pgs_nil))))
        (pss_cons (ps_set (i := 6) nd rfl (Or.inl rfl) (pe_sortSet rfl (by rfl) mSo (by rfl) mSe (pv 5)))
        (pss_cons (ps_if (PW.pt (pw_or (pt_cmpR op_ne (pe_callB SkE.call_repr_int (by rfl) mRp (by decide +kernel) (pa_cons (pe_call GC hr8 rfl mC kC bC .nil pass0 (pa_cons (pv 3) pa_nil)) pa_nil)) (pe_callB SkE.call_repr_int (by rfl) mRp (by decide +kernel) (pa_cons (pv 4) pa_nil)) (nomark _))
            (pw_or1 (pt_cmpR op_ne (pe_kw0 GC hr8 rfl mC kC qC pass0 (pk_cons (pv 3) pk_nil)) (pv 4) (nomark _))))) (pss_one (ps_ret pe_bl)) pss_nil)
        (pss_cons (ps_set (i := 7) nd rfl (Or.inl rfl) (pe_call GW hr13 rfl mW kW bW' .nil pass0 (pa_cons (pv 3) pa_nil)))
        (pss_cons (ps_if (pt_cmpR op_ne (pe_callB (call_reprL hg hr.units) (by rfl) mRp (by decide +kernel) (pa_cons (pv 7) pa_nil)) (pe_callB (call_reprL hg hr.units) (by rfl) mRp (by decide +kernel) (pa_cons (pv 6) pa_nil)) (nomark _)) (pss_one (ps_ret pe_bl)) pss_nil)
        (pss_cons (ps_expr (pe_bm PySem.F.plainAttrs_list PySem.F.slot_list_append PySem.F.type_list_append mt_append (pv 7) (pa_cons pe_str pa_nil)))
        (pss_cons (ps_expr (pe_bm0 PySem.F.plainAttrs_list PySem.F.slot_list_reverse PySem.F.type_list_reverse mt_reverse (pv 7)))
        (pss_one (ps_if (pt_cmpR (op_neD hr.units) (pe_kw0 GW hr13 rfl mW kW qW pass0 (pk_cons (pv 3) pk_nil)) (pv 6) (nomark _)) (pss_one (ps_ret pe_bl)) pss_nil)))))))))))
      (pss_one (ps_ret (pe_and (pe_cmpR op_eq (pe_call GC hr8 rfl mC kC bC .nil pass0 (pa_cons (pe_tup pa_nil) pa_nil)) pe_int (nomark _)) (pe_one (pe_cmpR (op_eqD hr.units) (pe_call GW hr13 rfl mW kW bW' .nil pass0 (pa_cons (pe_tup pa_nil) pa_nil)) (pe_lst pa_nil) (nomark _))))))), ?_⟩
    refine asg_n (call_of ⟨_, rfl, a, ns, rfl, hS, fun d l ms H1 hd hl s1 p1 => ?_⟩)
    refine ⟨12, rfl, by decide, by decide, for_range (lo := 0) (n := 12) (fun n σ H2 => ∃ (nn L : Int) (x2 x3 x4 x5 x6 x7 : Option V), σ = [some (.ref a), some (.ref d), x2, x3, x4, x5, x6, x7] ∧ Pen H2 d l ms nn L ∧ nn ≤ 4000000 * (n : Int)) ?_ ?_ ?_⟩
    · exact ⟨0, 0, _, _, _, _, _, _, rfl, p1, by decide⟩
    · rintro n σ H2 hn ⟨nn, L, x2, x3, x4, x5, x6, x7, rfl, pn, hb⟩
      rw [Int.zero_add]
      refine asg_n (call_of ⟨_, rfl, fun dp hdp => ⟨by show 3 ≤ sizeLine; decide, fun u hu => ?_⟩⟩)
      have sd : Same H2 (L2.upd H2 dp (.dK [])) := Same.new (Same.refl _) hdp
      have su : Same (L2.upd H2 dp (.dK [])) (L2.upd (L2.upd H2 dp (.dK [])) u (.lst [.int 3, .int 20, .int 60])) := Same.new (Same.refl _) hu
      have cd0 := su _ _ (upd_same (H := H2) (a := dp) (o := .dK []))
      have cu0 : (L2.upd (L2.upd H2 dp (.dK [])) u (.lst [.int 3, .int 20, .int 60])) u = some (.lst [.int 3, .int 20, .int 60]) := upd_same
      have s2 := sd.trans su
      have p2 := pn.same s2
      generalize L2.upd (L2.upd H2 dp (.dK [])) u (.lst [.int 3, .int 20, .int 60]) = J0 at cd0 cu0 s2 p2 ⊢
      have hdpd : dp ≠ d := ne_of cd0 p2.dc (by intro z; have := congrArg List.length (HO.dK.inj z); simp [pen] at this)
      refine rd_dr (m := 3) rfl (fun _ h => h) p2 (by omega) (by decide) (by decide) fun r n1 L1 J1 r0 r1 y1 => ?_
      have b1 := y1.hi
      have cu1 := y1.kp _ _ cu0 (ne_of cu0 p2.dc (by intro z; cases z))
      have cd1 := y1.kp _ _ cd0 hdpd
      obtain ⟨v, hv, hat, _⟩ := atI_of (xs := [V.int 3, V.int 20, V.int 60]) r0 r1
      obtain ⟨left, rfl, lf0, lf1⟩ : ∃ i : Int, v = .int i ∧ 0 ≤ i ∧ i ≤ 60 := by
        simp only [List.mem_cons, List.mem_nil_iff, or_false] at hv
        rcases hv with rfl | rfl | rfl <;> exact ⟨_, rfl, by decide, by decide⟩
      refine ⟨u, _, _, _, rfl, rfl, SqL.of cu1, hat, cd1, [(Sum.inr "left", .int left)], rfl, by show 1 ≤ 15; decide, ?_⟩
      rw [plan_new]
      have p3 : Pen (L2.upd J1 dp (.dK (planK left))) d l ms n1 L1 := ⟨by rw [upd_ne (Ne.symm hdpd)]; exact y1.pn.dc, by rw [upd_ne (ne_of y1.pn.ls cd1 (by intro z; cases z))]; exact y1.pn.ls, y1.pn.n0, y1.pn.l0⟩
      have c3 : (L2.upd J1 dp (.dK (planK left))) dp = some (.dK (planK left)) := upd_same
      generalize L2.upd J1 dp (.dK (planK left)) = J2 at p3 c3 ⊢
      refine rd_dr (m := 5) rfl (fun _ h => h) p3 (by omega) (by decide) (by decide) fun r5 n2 Lb J3 q0 q1 y2 => ⟨_, _, rfl, rfl, ?_⟩
      have b2 := y2.hi
      obtain ⟨j, rfl⟩ : ∃ j : Nat, r5 = (j : Int) := ⟨r5.toNat, by omega⟩
      refine ⟨j, by omega, d, l, dp, ms, n2, Lb, left, ?_, y2.pn, y2.kp _ _ c3 hdpd, lf0, by omega, fun todo t0 n3 L3 a3 J4 c hR0 hc ec hz0 y3 => ?_⟩
      · show [V.ref d, V.ref dp, V.int (1 + (j : Int))] = [V.ref d, V.ref dp, V.int ((j + 1 : Nat) : Int)]
        rw [show (1 + (j : Int)) = ((j + 1 : Nat) : Int) by omega]
      have b3 := y3.hi
      have hl0 := y3.l0
      obtain ⟨hz1, hz2⟩ := hz0
      have hj5 : j + 1 ≤ 5 := by omega
      have hzz : szD t0 ≤ 1000000 := by omega
      have hww : (wds (j + 1) t0).length ≤ 3900 := by omega
      have hwd := wds_wd (j + 1) t0 c hc
      have p4 := y3.pn
      refine asg_of (call_of ⟨_, rfl, j + 1, hj5, _, todo, t0, c, rfl, hR0, hc, hzz, fun tt wl J5 s5 hwn ct cw => ?_⟩)
      refine ⟨tt, _, rfl, SqT.of ct, rfl, _, _, rfl, _, _, rfl, rfl, ?_⟩
      refine asg_n ⟨_, rfl, wl, wds (j + 1) t0, rfl, SqL.of cw, Nat.lt_of_le_of_lt (show (wds (j + 1) t0).length + 1 ≤ 3901 by omega) (by decide), fun ss q h1 h2 h3 h4 hq => ?_⟩
      have s6 : Same J5 (L2.upd J5 q (.lst (ss.map V.str))) := Same.new (Same.refl _) hq
      have cq : (L2.upd J5 q (.lst (ss.map V.str))) q = some (.lst (ss.map V.str)) := upd_same
      have hR6 := (hR0.same s5).same s6
      have p6 := (p4.same s5).same s6
      generalize L2.upd J5 q (.lst (ss.map V.str)) = J6 at s6 cq hR6 p6 ⊢
      have hss : ∀ x ∈ ss, isWd x = true := fun x hx => hwd x ((h3 x).mp hx)
      have hsl : ss.length ≤ 3900 := by omega
      have hlog : ((c : Int)).natAbs.log2 < 1920 := Nat.lt_of_le_of_lt (Nat.log2_le_self _) (by omega)
      refine ⟨_, rfl, j + 1, hj5, _, todo, t0, c, rfl, hR6, hc, fun J7 s7 => ⟨_, rfl, hlog, ?_⟩⟩
      refine ⟨_, rfl, _, rfl, hlog, rfl, _, rfl, iteB0 (by simp) ?_⟩
      refine ⟨_, rfl, j + 1, hj5, _, todo, t0, c, rfl, hR6.same s7, hc, fun J8 s8 => ⟨_, rfl, rfl, _, rfl, iteB0 (by simp) ?_⟩⟩
      have s78 := s7.trans s8
      have hR8 := hR6.same s78
      have cq8 := s78 _ _ cq
      have p8 := p6.same s78
      refine nxt_of (asg_n (call_of ⟨_, rfl, j + 1, hj5, _, todo, t0, c, rfl, hR8, hc, hzz, hww, fun s2' fa J9 s9 g1 g2 g3 g4 hfn cf => ?_⟩))
      have es : s2' = ss := one_sorted g1 h1 g2 h2 fun x => by rw [g3 x, h3 x]
      subst es
      have cq9 := s9 _ _ cq8
      refine ⟨_, rfl, fa, _, rfl, dp_l cf, sh_all _, hd_all _, by rw [depth_l]; decide, shown_len hss hsl, _, rfl, q, _, rfl, dp_l cq9, sh_all _, hd_all _, by rw [depth_l]; decide, shown_len hss hsl, rfl, _, rfl, iteB0 (by simp) ?_⟩
      refine nxt_of ⟨_, rfl, .inl ⟨rfl, _, SqL.of cf⟩, fa, _, _, rfl, rfl, cf, ?_, ?_⟩
      · rw [List.length_map]; exact Nat.lt_of_le_of_lt hsl (by decide)
      refine ⟨_, rfl, .inl ⟨rfl, _, SqL.of upd_same⟩, fa, _, rfl, rfl, upd_same, ?_⟩
      have s10 : Same J8 (L2.upd (L2.upd J9 fa (.lst (s2'.map V.str ++ [V.str "a"]))) fa (.lst (s2'.map V.str ++ [V.str "a"]).reverse)) := fun b o e => by
        rw [upd_ne (ne_of_none e hfn), upd_ne (ne_of_none e hfn)]; exact s9 _ _ e
      generalize L2.upd (L2.upd J9 fa (.lst (s2'.map V.str ++ [V.str "a"]))) fa (.lst (s2'.map V.str ++ [V.str "a"]).reverse) = J10 at s10 ⊢
      refine ⟨_, rfl, j + 1, hj5, _, todo, t0, c, rfl, hR8.same s10, hc, hzz, hww, fun s3' fb J11 s11 g1' g2' g3' g4' hfn' cf' => ?_⟩
      have es : s3' = s2' := one_sorted g1' h1 g2' h2 fun x => by rw [g3' x, h3 x]
      subst es
      refine ⟨_, rfl, _, _, dp_l cf', dp_l (s11 _ _ (s10 _ _ cq8)), shaped_l hss, shaped_l hss, _, rfl, iteB0 (by rw [eqv_l hss]; rfl) ?_⟩
      exact ⟨n3, L3, _, _, _, _, _, _, rfl, p8.same (s10.trans s11), by omega⟩
    · rintro σ H2 _
      refine ⟨by show 0 ≤ sizeLine; decide, fun t1 ht1 => ?_⟩
      refine ⟨1, by decide, 1, .ref t1, .tuple [], 0, rfl, ⟨t1, [], rfl, upd_same, .nil⟩, rfl, fun J1 s1' => ⟨rfl, _, rfl, iteT ?_⟩⟩
      refine ⟨by show 0 ≤ sizeLine; decide, fun t2 ht2 => ?_⟩
      refine ⟨1, by decide, 1, .ref t2, .tuple [], 0, rfl, ⟨t2, [], rfl, upd_same, .nil⟩, rfl, by decide, by decide, fun ss p J2 s2' _ _ h3 _ _ cp => ⟨by show 0 ≤ sizeLine; decide, fun e he => ?_⟩⟩
      have es : ss = [] := by
        cases ss with
        | nil => rfl
        | cons x _ => exact nomatch (h3 x).mp (List.mem_cons_self ..)
      subst es
      refine ⟨.list [], .list [], dp_l (ss := []) ((Same.new (Same.refl _) he : Same J2 _) _ _ cp), dp_l (ss := []) upd_same, rfl, rfl, ?_⟩
      exact k _
end
end My

set_option Elab.async false
set_option linter.all false
set_option maxRecDepth 100000
set_option maxHeartbeats 4000000
namespace My
open PySem L2
/-- the object is a tuple of these -/
def SqO (o : Obj) (xs : List V) : Prop := ∃ its n, o.cls = .type "tuple" ∧ o.data = .seq its n ∧ its.size ≤ sizeLine ∧ Vals xs its.toList
theorem sqt_of {K : PySem.W.Frag} {H : Hp} {a : Addr} {o : Obj} {xs : List V} (h : K.lookup a = some o) (s : SqO o xs) : SqT K H a xs := by
  obtain ⟨its, n, h1, h2, h3, h4⟩ := s
  exact .inr ⟨o, its, n, h, h1, h2, h3, h4⟩
theorem ent_of {K : PySem.W.Frag} {e : DictEntry} {p : Str × List Kd} {t : Tok} {a : Addr} {o : Obj} (h1 : e.key = .str p.1 t) (h2 : e.val = .ref a) (h3 : K.lookup a = some o) (h4 : SqO o (p.2.map fun k => V.str (kname k))) : EntAt K e p := ⟨⟨t, h1⟩, a, h2, fun H => sqt_of h3 h4⟩
end My

set_option Elab.async false
set_option linter.all false
set_option maxRecDepth 100000
set_option maxHeartbeats 4000000
namespace My
open PySem L2
theorem kb1 {K : PySem.W.Frag} {x qual y : Str} {st : Stmt} {f : Addr} {fd : FuncData} (F : Fun K x qual st f fd)
    (h1 : ∀ (kV doc pm : Value) (an : Option Addr) (cdv ct u : Value), bindArgs (PySem.W.fnOf x qual (defArgs st) (defBody st) (defScope st) .none kV doc pm an cdv ct) ⟨[u], []⟩ = pure [(y, u)])
    (h2 : ∀ (kV doc pm : Value) (an : Option Addr) (cdv ct u : Value), bindArgs (PySem.W.fnOf x qual (defArgs st) (defBody st) (defScope st) .none kV doc pm an cdv ct) ⟨[], [(y, u)]⟩ = pure [(y, u)]) : KBinds K fd [y] [y] (fun us ws => us ++ ws) (fun us ws => us ++ ws) := by
  obtain ⟨oc, od, kV, doc, pm, an, cdv, ct, osl, rfl, lk, hcd⟩ := F.ex
  refine ⟨fun s us ws _ hl => ?_, fun r1 r2 => r1.append r2⟩
  match us, ws, hl with
  | [], [u], _ => exact .of_eq (h2 kV doc pm an cdv ct u)
  | [u], [], _ => exact .of_eq (h1 kV doc pm an cdv ct u)
  | [], [], h => exact absurd h (by simp)
  | [], _ :: _ :: _, h => exact absurd h (by simp)
  | [_], _ :: _, h => exact absurd h (by simp)
  | _ :: _ :: _, _, h => exact absurd h (by simp)
theorem all_mk {l : PySem.W.OpenLaw} {w : World} {K : PySem.W.Frag} {h : Heap} {mg : Str → Option Value} {fa gprt gscs gdee gwin galw gwow gpen gdrw gpck gwrd gwor gfrs glpt gscr gltx glco glaw : Addr} {dA kA : Addr} {esD : Array DictEntry} {nD : Nat} {oS : Obj} (X : K.In h) (G : h.Ns mainGlobals mg) (hfa : mg "law" = some (.ref fa))
    {odprt anprt odscs anscs oddee andee odwin anwin odalw analw odwow anwow odpen anpen oddrw andrw odpck anpck odwrd anwrd odwor anwor odfrs anfrs odlpt anlpt odscr anscr odltx anltx odlco anlco odlaw anlaw : Option Addr} {slprt slscs sldee slwin slalw slwow slpen sldrw slpck slwrd slwor slfrs sllpt slscr slltx sllco sllaw : Array (Option Value)} {ocprt kVprt dcprt pmprt cdprt ctprt ocscs kVscs dcscs pmscs cdscs ctscs ocdee kVdee dcdee pmdee cddee ctdee ocwin kVwin dcwin pmwin cdwin ctwin ocalw kValw dcalw pmalw cdalw ctalw ocwow kVwow dcwow pmwow cdwow ctwow ocpen kVpen dcpen pmpen cdpen ctpen ocdrw kVdrw dcdrw pmdrw cddrw ctdrw ocpck kVpck dcpck pmpck cdpck ctpck ocwrd kVwrd dcwrd pmwrd cdwrd ctwrd ocwor kVwor dcwor pmwor cdwor ctwor ocfrs kVfrs dcfrs pmfrs cdfrs ctfrs oclpt kVlpt dclpt pmlpt cdlpt ctlpt ocscr kVscr dcscr pmscr cdscr ctscr ocltx kVltx dcltx pmltx cdltx ctltx oclco kVlco dclco pmlco cdlco ctlco oclaw kVlaw dclaw pmlaw cdlaw ctlaw : Value}
    (aprt : PySem.W.nsIn K mainGlobals "parts_of" = some (some (.ref gprt))) (lprt : K.lookup gprt = some ⟨ocprt, odprt, .func (PySem.W.fnOf "parts_of" "parts_of" (defArgs sParts) (defBody sParts) (defScope sParts) .none kVprt dcprt pmprt anprt cdprt ctprt), slprt⟩) (cprt : PySem.W.codeIn K cdprt "parts_of" = true) (kprt : PySem.W.keepIn K (.ref gprt) = true)
    (ascs : PySem.W.nsIn K mainGlobals "scripts_of" = some (some (.ref gscs))) (lscs : K.lookup gscs = some ⟨ocscs, odscs, .func (PySem.W.fnOf "scripts_of" "scripts_of" (defArgs sScrs) (defBody sScrs) (defScope sScrs) .none kVscs dcscs pmscs anscs cdscs ctscs), slscs⟩) (cscs : PySem.W.codeIn K cdscs "scripts_of" = true) (kscs : PySem.W.keepIn K (.ref gscs) = true)
    (adee : PySem.W.nsIn K mainGlobals "deeds_in" = some (some (.ref gdee))) (ldee : K.lookup gdee = some ⟨ocdee, oddee, .func (PySem.W.fnOf "deeds_in" "deeds_in" (defArgs sCntP) (defBody sCntP) (defScope sCntP) .none kVdee dcdee pmdee andee cddee ctdee), sldee⟩) (cdee : PySem.W.codeIn K cddee "deeds_in" = true) (kdee : PySem.W.keepIn K (.ref gdee) = true)
    (awin : PySem.W.nsIn K mainGlobals "words_in" = some (some (.ref gwin))) (lwin : K.lookup gwin = some ⟨ocwin, odwin, .func (PySem.W.fnOf "words_in" "words_in" (defArgs sWin) (defBody sWin) (defScope sWin) .none kVwin dcwin pmwin anwin cdwin ctwin), slwin⟩) (cwin : PySem.W.codeIn K cdwin "words_in" = true) (kwin : PySem.W.keepIn K (.ref gwin) = true)
    (aalw : PySem.W.nsIn K mainGlobals "all_words" = some (some (.ref galw))) (lalw : K.lookup galw = some ⟨ocalw, odalw, .func (PySem.W.fnOf "all_words" "all_words" (defArgs sAll) (defBody sAll) (defScope sAll) .none kValw dcalw pmalw analw cdalw ctalw), slalw⟩) (calw : PySem.W.codeIn K cdalw "all_words" = true) (kalw : PySem.W.keepIn K (.ref galw) = true)
    (awow : PySem.W.nsIn K mainGlobals "words_of_worth" = some (some (.ref gwow))) (lwow : K.lookup gwow = some ⟨ocwow, odwow, .func (PySem.W.fnOf "words_of_worth" "words_of_worth" (defArgs sWoW) (defBody sWoW) (defScope sWoW) .none kVwow dcwow pmwow anwow cdwow ctwow), slwow⟩) (cwow : PySem.W.codeIn K cdwow "words_of_worth" = true) (kwow : PySem.W.keepIn K (.ref gwow) = true)
    (apen : PySem.W.nsIn K mainGlobals "_law_pen" = some (some (.ref gpen))) (lpen : K.lookup gpen = some ⟨ocpen, odpen, .func (PySem.W.fnOf "_law_pen" "_law_pen" (defArgs sPen) (defBody sPen) (defScope sPen) .none kVpen dcpen pmpen anpen cdpen ctpen), slpen⟩) (cpen : PySem.W.codeIn K cdpen "_law_pen" = true) (kpen : PySem.W.keepIn K (.ref gpen) = true)
    (adrw : PySem.W.nsIn K mainGlobals "_law_draw" = some (some (.ref gdrw))) (ldrw : K.lookup gdrw = some ⟨ocdrw, oddrw, .func (PySem.W.fnOf "_law_draw" "_law_draw" (defArgs sDraw) (defBody sDraw) (defScope sDraw) .none kVdrw dcdrw pmdrw andrw cddrw ctdrw), sldrw⟩) (cdrw : PySem.W.codeIn K cddrw "_law_draw" = true) (kdrw : PySem.W.keepIn K (.ref gdrw) = true)
    (apck : PySem.W.nsIn K mainGlobals "_law_pick" = some (some (.ref gpck))) (lpck : K.lookup gpck = some ⟨ocpck, odpck, .func (PySem.W.fnOf "_law_pick" "_law_pick" (defArgs sPick) (defBody sPick) (defScope sPick) .none kVpck dcpck pmpck anpck cdpck ctpck), slpck⟩) (cpck : PySem.W.codeIn K cdpck "_law_pick" = true) (kpck : PySem.W.keepIn K (.ref gpck) = true)
    (awrd : PySem.W.nsIn K mainGlobals "_law_word" = some (some (.ref gwrd))) (lwrd : K.lookup gwrd = some ⟨ocwrd, odwrd, .func (PySem.W.fnOf "_law_word" "_law_word" (defArgs sWord) (defBody sWord) (defScope sWord) .none kVwrd dcwrd pmwrd anwrd cdwrd ctwrd), slwrd⟩) (cwrd : PySem.W.codeIn K cdwrd "_law_word" = true) (kwrd : PySem.W.keepIn K (.ref gwrd) = true)
    (awor : PySem.W.nsIn K mainGlobals "_law_worth" = some (some (.ref gwor))) (lwor : K.lookup gwor = some ⟨ocwor, odwor, .func (PySem.W.fnOf "_law_worth" "_law_worth" (defArgs sWor) (defBody sWor) (defScope sWor) .none kVwor dcwor pmwor anwor cdwor ctwor), slwor⟩) (cwor : PySem.W.codeIn K cdwor "_law_worth" = true) (kwor : PySem.W.keepIn K (.ref gwor) = true)
    (afrs : PySem.W.nsIn K mainGlobals "_law_forms" = some (some (.ref gfrs))) (lfrs : K.lookup gfrs = some ⟨ocfrs, odfrs, .func (PySem.W.fnOf "_law_forms" "_law_forms" (defArgs sForms) (defBody sForms) (defScope sForms) .none kVfrs dcfrs pmfrs anfrs cdfrs ctfrs), slfrs⟩) (cfrs : PySem.W.codeIn K cdfrs "_law_forms" = true) (kfrs : PySem.W.keepIn K (.ref gfrs) = true)
    (alpt : PySem.W.nsIn K mainGlobals "_law_part" = some (some (.ref glpt))) (llpt : K.lookup glpt = some ⟨oclpt, odlpt, .func (PySem.W.fnOf "_law_part" "_law_part" (defArgs sPart) (defBody sPart) (defScope sPart) .none kVlpt dclpt pmlpt anlpt cdlpt ctlpt), sllpt⟩) (clpt : PySem.W.codeIn K cdlpt "_law_part" = true) (klpt : PySem.W.keepIn K (.ref glpt) = true)
    (ascr : PySem.W.nsIn K mainGlobals "_law_script" = some (some (.ref gscr))) (lscr : K.lookup gscr = some ⟨ocscr, odscr, .func (PySem.W.fnOf "_law_script" "_law_script" (defArgs sScr) (defBody sScr) (defScope sScr) .none kVscr dcscr pmscr anscr cdscr ctscr), slscr⟩) (cscr : PySem.W.codeIn K cdscr "_law_script" = true) (kscr : PySem.W.keepIn K (.ref gscr) = true)
    (altx : PySem.W.nsIn K mainGlobals "_law_texts" = some (some (.ref gltx))) (lltx : K.lookup gltx = some ⟨ocltx, odltx, .func (PySem.W.fnOf "_law_texts" "_law_texts" (defArgs sLTx) (defBody sLTx) (defScope sLTx) .none kVltx dcltx pmltx anltx cdltx ctltx), slltx⟩) (cltx : PySem.W.codeIn K cdltx "_law_texts" = true) (kltx : PySem.W.keepIn K (.ref gltx) = true)
    (alco : PySem.W.nsIn K mainGlobals "_law_counted" = some (some (.ref glco))) (llco : K.lookup glco = some ⟨oclco, odlco, .func (PySem.W.fnOf "_law_counted" "_law_counted" (defArgs sLC) (defBody sLC) (defScope sLC) .none kVlco dclco pmlco anlco cdlco ctlco), sllco⟩) (clco : PySem.W.codeIn K cdlco "_law_counted" = true) (klco : PySem.W.keepIn K (.ref glco) = true)
    (alaw : PySem.W.nsIn K mainGlobals "law" = some (some (.ref glaw))) (llaw : K.lookup glaw = some ⟨oclaw, odlaw, .func (PySem.W.fnOf "law" "law" (defArgs sLaw) (defBody sLaw) (defScope sLaw) .none kVlaw dclaw pmlaw anlaw cdlaw ctlaw), sllaw⟩) (claw : PySem.W.codeIn K cdlaw "law" = true) (klaw : PySem.W.keepIn K (.ref glaw) = true)
    (zisinstance : PySem.W.nsIn K mainGlobals "isinstance" = some none)
    (zstr : PySem.W.nsIn K mainGlobals "str" = some none)
    (zint : PySem.W.nsIn K mainGlobals "int" = some none)
    (ztuple : PySem.W.nsIn K mainGlobals "tuple" = some none)
    (zlen : PySem.W.nsIn K mainGlobals "len" = some none)
    (zsum : PySem.W.nsIn K mainGlobals "sum" = some none)
    (zsorted : PySem.W.nsIn K mainGlobals "sorted" = some none)
    (zset : PySem.W.nsIn K mainGlobals "set" = some none)
    (zlist : PySem.W.nsIn K mainGlobals "list" = some none)
    (zrange : PySem.W.nsIn K mainGlobals "range" = some none)
    (zrepr : PySem.W.nsIn K mainGlobals "repr" = some none)
    (zzip : PySem.W.nsIn K mainGlobals "zip" = some none)
    (zmax : PySem.W.nsIn K mainGlobals "max" = some none)
    (xD : PySem.W.nsIn K mainGlobals "DEEDS" = some (some (.ref dA)))
    (xDl : K.lookup dA = some ⟨.type "dict", none, .dict esD nD, #[]⟩)
    (xDt : PySem.W.KeysLit w.params esD.toList)
    (xDp : Paired (EntAt K) esD.toList formL)
    (xDs : (dA == sysModules) = false)
    (xS : PySem.W.nsIn K mainGlobals "SCRIPT_KINDS" = some (some (.ref kA)))
    (xSl : K.lookup kA = some oS)
    (xSc : SqO oS [.str "script", .str "perhaps"]) :
    ∃ fd : FuncData, (∀ (s : Shared) (v : Value), BindsTo s fd ⟨[v], []⟩ [("_law_cells", v)]) ∧ ∀ base : Heap, K.In base → base.Ns mainGlobals mg → FnG l.prog w K mg base 17 fa fd ["_law_cells"] (spLaw K) := by
  have e := hfa.symm.trans (PySem.W.mg_of X G alaw)
  cases e
  have Fprt := fun_mk (st := sParts) lprt cprt kprt
  have mprt := PySem.W.mg_of X G aprt
  have bprt := Fprt.binds (ps := ["deed"]) fun _ _ _ _ _ _ us hl => match us, hl with | [_], _ => rfl
  have Fscs := fun_mk (st := sScrs) lscs cscs kscs
  have mscs := PySem.W.mg_of X G ascs
  have bscs := Fscs.binds (ps := ["deed"]) fun _ _ _ _ _ _ us hl => match us, hl with | [_], _ => rfl
  have Fdee := fun_mk (st := sCntP) ldee cdee kdee
  have mdee := PySem.W.mg_of X G adee
  have bdee := Fdee.binds (ps := ["script"]) fun _ _ _ _ _ _ us hl => match us, hl with | [_], _ => rfl
  have Fwin := fun_mk (st := sWin) lwin cwin kwin
  have mwin := PySem.W.mg_of X G awin
  have bwin := Fwin.binds (ps := ["script"]) fun _ _ _ _ _ _ us hl => match us, hl with | [_], _ => rfl
  have Falw := fun_mk (st := sAll) lalw calw kalw
  have malw := PySem.W.mg_of X G aalw
  have balw := Falw.binds (ps := ["script"]) fun _ _ _ _ _ _ us hl => match us, hl with | [_], _ => rfl
  have Fwow := fun_mk (st := sWoW) lwow cwow kwow
  have mwow := PySem.W.mg_of X G awow
  have bwow := Fwow.binds (ps := ["worth"]) fun _ _ _ _ _ _ us hl => match us, hl with | [_], _ => rfl
  have Fpen := fun_mk (st := sPen) lpen cpen kpen
  have mpen := PySem.W.mg_of X G apen
  have bpen := Fpen.binds (ps := ["_law_cells"]) fun _ _ _ _ _ _ us hl => match us, hl with | [_], _ => rfl
  have Fdrw := fun_mk (st := sDraw) ldrw cdrw kdrw
  have mdrw := PySem.W.mg_of X G adrw
  have bdrw := Fdrw.binds (ps := ["_law_held", "_law_many"]) fun _ _ _ _ _ _ us hl => match us, hl with | [_, _], _ => rfl
  have Fpck := fun_mk (st := sPick) lpck cpck kpck
  have mpck := PySem.W.mg_of X G apck
  have bpck := Fpck.binds (ps := ["_law_held", "_law_some"]) fun _ _ _ _ _ _ us hl => match us, hl with | [_, _], _ => rfl
  have Fwrd := fun_mk (st := sWord) lwrd cwrd kwrd
  have mwrd := PySem.W.mg_of X G awrd
  have bwrd := Fwrd.binds (ps := ["_law_held"]) fun _ _ _ _ _ _ us hl => match us, hl with | [_], _ => rfl
  have Fwor := fun_mk (st := sWor) lwor cwor kwor
  have mwor := PySem.W.mg_of X G awor
  have bwor := Fwor.binds (ps := ["_law_held", "_law_within"]) fun _ _ _ _ _ _ us hl => match us, hl with | [_, _], _ => rfl
  have Ffrs := fun_mk (st := sForms) lfrs cfrs kfrs
  have mfrs := PySem.W.mg_of X G afrs
  have bfrs := Ffrs.binds (ps := []) fun _ _ _ _ _ _ us hl => match us, hl with | [], _ => rfl
  have Flpt := fun_mk (st := sPart) llpt clpt klpt
  have mlpt := PySem.W.mg_of X G alpt
  have blpt := Flpt.binds (ps := ["_law_held", "_law_kind", "_law_plan", "_law_within"]) fun _ _ _ _ _ _ us hl => match us, hl with | [_, _, _, _], _ => rfl
  have Fscr := fun_mk (st := sScr) lscr cscr kscr
  have mscr := PySem.W.mg_of X G ascr
  have bscr := Fscr.binds (ps := ["_law_held", "_law_plan", "_law_within"]) fun _ _ _ _ _ _ us hl => match us, hl with | [_, _, _], _ => rfl
  have Fltx := fun_mk (st := sLTx) lltx cltx kltx
  have mltx := PySem.W.mg_of X G altx
  have bltx := Fltx.binds (ps := ["_law_thing"]) fun _ _ _ _ _ _ us hl => match us, hl with | [_], _ => rfl
  have Flco := fun_mk (st := sLC) llco clco klco
  have mlco := PySem.W.mg_of X G alco
  have blco := Flco.binds (ps := ["_law_todo"]) fun _ _ _ _ _ _ us hl => match us, hl with | [_], _ => rfl
  have Flaw := fun_mk (st := sLaw) llaw claw klaw
  have mlaw := PySem.W.mg_of X G alaw
  have nisinstance := PySem.W.mg_none_of X G zisinstance
  have nstr := PySem.W.mg_none_of X G zstr
  have nint := PySem.W.mg_none_of X G zint
  have ntuple := PySem.W.mg_none_of X G ztuple
  have nlen := PySem.W.mg_none_of X G zlen
  have nsum := PySem.W.mg_none_of X G zsum
  have nsorted := PySem.W.mg_none_of X G zsorted
  have nset := PySem.W.mg_none_of X G zset
  have nlist := PySem.W.mg_none_of X G zlist
  have nrange := PySem.W.mg_none_of X G zrange
  have nrepr := PySem.W.mg_none_of X G zrepr
  have nzip := PySem.W.mg_none_of X G zzip
  have nmax := PySem.W.mg_none_of X G zmax
  have qdee := kb1 (y := "script") Fdee (fun _ _ _ _ _ _ _ => rfl) (fun _ _ _ _ _ _ _ => rfl)
  have qwin := kb1 (y := "script") Fwin (fun _ _ _ _ _ _ _ => rfl) (fun _ _ _ _ _ _ _ => rfl)
  refine ⟨PySem.W.fnOf "law" "law" (defArgs sLaw) (defBody sLaw) (defScope sLaw) .none kVlaw dclaw pmlaw anlaw cdlaw ctlaw, fun s v => .of_eq rfl, fun base _ _ => ?_⟩
  have D : Deeds K w mg dA esD nD := deeds_mk (PySem.W.mg_of X G xD) xDl xDt (by assumption) xDp
  have Gprt := ok_parts (P := l.prog) (pB := base) Fprt D nlist nzip
  have Gscs := ok_scrs Fscs Gprt mprt kprt bprt (PySem.W.mg_of X G xS) (fun H => sqt_of xSl xSc)
  have Gdee := ok_U (ok_cnt Fdee mdee bdee Gscs mscs kscs bscs nlen nsum)
  have Gwow := ok_wow (P := l.prog) (w := w) (pB := base) Fwow mwow bwow nisinstance nstr ntuple 4
  have Galw := ok_all Falw malw balw Gscs mscs kscs bscs Gprt mprt kprt bprt Gwow mwow kwow bwow (PySem.W.mg_of X G xS) (fun H => sqt_of xSl xSc)
  have Gwin := ok_U fun n => ok_win Fwin n (Galw n) malw kalw balw nsorted nset
  have Gpen := ok_pen (P := l.prog) (w := w) (base := base) Fpen nlist
  have Gdrw := ok_draw (P := l.prog) (w := w) (base := base) Fdrw nlen
  have Gpck := ok_pick Fpck Gdrw mdrw kdrw bdrw nlen
  have Gwrd := ok_word Fwrd Gdrw mdrw kdrw bdrw Gpck mpck kpck bpck nrange
  have Gwor := ok_wor Fwor mwor bwor Gdrw mdrw kdrw bdrw Gwrd mwrd kwrd bwrd nint ntuple nrange 2
  have Gfrs := ok_forms (P := l.prog) (w := w) (mg := mg) (pB := base) Ffrs
  have Gscr := ok_scrU (ok_scripts Flpt mlpt blpt Fscr mscr bscr Gfrs mfrs kfrs bfrs Gpck mpck kpck bpck Gdrw mdrw kdrw bdrw Gwrd mwrd kwrd bwrd Gwor mwor kwor bwor nint ntuple nrange nmax)
  have Gltx := ok_ltx (P := l.prog) (w := w) (pB := base) Fltx mltx bltx nisinstance nstr ntuple nint 4
  have Glco := ok_U (ok_lc Flco mlco blco Gfrs mfrs kfrs bfrs Gltx mltx kltx bltx nzip)
  exact ok_law Flaw Gpen mpen kpen bpen Gdrw mdrw kdrw bdrw Gscr mscr kscr bscr Glco mlco klco blco Gdee mdee kdee bdee qdee Gwin mwin kwin bwin qwin nrange nrepr nsorted nset
theorem walk {l : PySem.W.OpenLaw} {q : Program} {loose : List Str} {XP : (Str → Option Value) → Heap → Prop} {YP : World → Heap → Prop} {d : DefRec} {K : Params → PySem.W.Frag} (hn : l.most = some 63) (hdf : d.params.defaults = [])
    (hY : ∀ (w : World) (h : Heap), YP w h → (K w.params).In h)
    (F : ∀ (w : World) (mg : Str → Option Value) (fa : Addr) (h : Heap), (K w.params).In h → h.Ns mainGlobals mg → mg d.name = some (.ref fa) →
      ∃ fd : FuncData, (∀ (s : Shared) (u : Value), BindsTo s fd ⟨[u], []⟩ [("_law_cells", u)]) ∧ ∀ base : Heap, (K w.params).In base → base.Ns mainGlobals mg → FnG l.prog w (K w.params) mg base 17 fa fd ["_law_cells"] ((fun w => spLaw (K w.params)) w)) :
    PySem.W.WalkO q loose XP YP l.row.toRowW d [] (fun f vs => PySem.call f vs) :=
  walkG (n := 63) (k := 17) (x := "_law_cells") (sp := fun w => spLaw (K w.params)) hn (by decide) hdf ⟨rfl, by decide, by decide⟩ hY F (fun _ _ a ns hl hS => ⟨a, ns, rfl, hS, fun _ => rfl⟩)
end My

set_option Elab.async false
set_option linter.all false
set_option maxRecDepth 100000
open PySem PySem.W PyProof.Rows
set_option maxRecDepth 100000 in
set_option maxHeartbeats 0 in
theorem PySem.Challenge.cw_rankloop_k63_deeds_and_words_counted_holds : PySem.Challenge.rw_rankloop_k63_deeds_and_words_counted.Holds := by
  w_on; o_law; k_head; (case hw => w_witness2)
  k_fill
  refine My.walk (l := PySem.Challenge.rw_rankloop_k63_deeds_and_words_counted) rfl rfl (fun w h Y => PySem.W.kIn_of Y) ?F
  case F =>
    intro w mg fa h KX G hmg
    refine' My.all_mk KX G hmg ?aprt ?lprt ?cprt ?kprt ?ascs ?lscs ?cscs ?kscs ?adee ?ldee ?cdee ?kdee ?awin ?lwin ?cwin ?kwin ?aalw ?lalw ?calw ?kalw ?awow ?lwow ?cwow ?kwow ?apen ?lpen ?cpen ?kpen ?adrw ?ldrw ?cdrw ?kdrw ?apck ?lpck ?cpck ?kpck ?awrd ?lwrd ?cwrd ?kwrd ?awor ?lwor ?cwor ?kwor ?afrs ?lfrs ?cfrs ?kfrs ?alpt ?llpt ?clpt ?klpt ?ascr ?lscr ?cscr ?kscr ?altx ?lltx ?cltx ?kltx ?alco ?llco ?clco ?klco ?alaw ?llaw ?claw ?klaw ?zisinstance ?zstr ?zint ?ztuple ?zlen ?zsum ?zsorted ?zset ?zlist ?zrange ?zrepr ?zzip ?zmax ?xD ?xDl ?xDt ?xDp ?xDs ?xS ?xSl ?xSc
    (case aprt => k_is)
    (case lprt => k_is)
    (case cprt => k_is)
    (case kprt => k_is)
    (case ascs => k_is)
    (case lscs => k_is)
    (case cscs => k_is)
    (case kscs => k_is)
    (case adee => k_is)
    (case ldee => k_is)
    (case cdee => k_is)
    (case kdee => k_is)
    (case awin => k_is)
    (case lwin => k_is)
    (case cwin => k_is)
    (case kwin => k_is)
    (case aalw => k_is)
    (case lalw => k_is)
    (case calw => k_is)
    (case kalw => k_is)
    (case awow => k_is)
    (case lwow => k_is)
    (case cwow => k_is)
    (case kwow => k_is)
    (case apen => k_is)
    (case lpen => k_is)
    (case cpen => k_is)
    (case kpen => k_is)
    (case adrw => k_is)
    (case ldrw => k_is)
    (case cdrw => k_is)
    (case kdrw => k_is)
    (case apck => k_is)
    (case lpck => k_is)
    (case cpck => k_is)
    (case kpck => k_is)
    (case awrd => k_is)
    (case lwrd => k_is)
    (case cwrd => k_is)
    (case kwrd => k_is)
    (case awor => k_is)
    (case lwor => k_is)
    (case cwor => k_is)
    (case kwor => k_is)
    (case afrs => k_is)
    (case lfrs => k_is)
    (case cfrs => k_is)
    (case kfrs => k_is)
    (case alpt => k_is)
    (case llpt => k_is)
    (case clpt => k_is)
    (case klpt => k_is)
    (case ascr => k_is)
    (case lscr => k_is)
    (case cscr => k_is)
    (case kscr => k_is)
    (case altx => k_is)
    (case lltx => k_is)
    (case cltx => k_is)
    (case kltx => k_is)
    (case alco => k_is)
    (case llco => k_is)
    (case clco => k_is)
    (case klco => k_is)
    (case alaw => k_is)
    (case llaw => k_is)
    (case claw => k_is)
    (case klaw => k_is)
    (case zisinstance => k_is)
    (case zstr => k_is)
    (case zint => k_is)
    (case ztuple => k_is)
    (case zlen => k_is)
    (case zsum => k_is)
    (case zsorted => k_is)
    (case zset => k_is)
    (case zlist => k_is)
    (case zrange => k_is)
    (case zrepr => k_is)
    (case zzip => k_is)
    (case zmax => k_is)
    (case xD => k_is)
    (case xDl => k_is)
    (case xDt => k_keys)
    (case xDp => (repeat (first | exact .nil | refine Paired.cons (My.ent_of rfl rfl (by k_is) ⟨_, _, rfl, rfl, by decide, by (repeat (first | exact .nil | refine .cons ⟨_, rfl⟩ ?_))⟩) ?_)))
    (case xDs => rfl)
    (case xS => k_is)
    (case xSl => k_is)
    (case xSc => exact ⟨_, _, rfl, rfl, by decide, by (repeat (first | exact .nil | refine .cons ⟨_, rfl⟩ ?_))⟩)

