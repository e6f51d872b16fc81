import PyProof.Rows.All
import Wide.All
import OpenK.AllK
import Wide.FinOn
import KE.KEqNest
import KE.KRevSl
import HandS.ForMost
import HandS.IsInst
import HandS.TupAny
import HandS.TupMul
import HandS.Star
import HandS.FStr
import HandS.Flow
import HandS.Conv
import HandS.Codes
import HandS.RaiseMore
import HandS.Style
import HandS.Zip
import KE.KDictZip
import KE.GoesEnum
import KE.GoesMore
import KE.KDictList
import HandS.StrMore
import HandS.Walk
import PyProof.StrLawsAffix
import HandS.ForExc
import HandS.ExcInit
import HandS.ExcField
import PyProof.StrLawsChain
import KE.KExcIs
import PyProof.ReprLen
import PyProof.StrOps2
import PySem.Challenge.RW_rankloop_k65_texts_of_no_script
set_option Elab.async false
set_option linter.all false
set_option maxRecDepth 100000
set_option maxHeartbeats 4000000
namespace My
open PySem L2 PyProof.Rows
theorem iteN {c A B : Prop} [Decidable c] (hc : ¬ c) (h : B) : if decide c = true then A else B := by
  rw [decide_eq_false hc]
  exact iteF h
theorem iteY {c A B : Prop} [Decidable c] (hc : c) (h : A) : if decide c = true then A else B := by
  rw [decide_eq_true hc]
  exact iteT h
theorem iteB0 {b : Bool} {A B : Prop} (hb : b = false) (h : B) : if b = true then A else B := by
  rw [hb]
  exact iteF h
theorem iteB1 {b : Bool} {A B : Prop} (hb : b = true) (h : A) : if b = true then A else B := by
  rw [hb]
  exact iteT h
theorem Same.new {H H' : Hp} {p : Addr} {o : HO} (s : Same H H') (h : H' p = none) : Same H (upd H' p o) := fun b u e => by
  have e' := s b u e
  rw [upd_ne (ne_of_none e' h)]
  exact e'
theorem asg_of {te : TE} {g : TG} {b : TS} {D : Ends} {σ : L2.St} {H : Hp} (h : te σ H fun x H1 => g x σ H1 fun σ2 H2 => b D σ2 H2) : tSeq (tAsg te g) b D σ H := h
theorem lst_of {t : TA} {σ : L2.St} {H : Hp} {Q : VK} (h : t σ H fun xs H1 => xs.length ≤ sizeLine ∧ ∀ p, H1 p = none → Q (.ref p) (upd H1 p (.lst xs))) : tLst t σ H Q := h
theorem cons_of {ta : TE} {tr : TA} {σ : L2.St} {H : Hp} {Q : List V → Hp → Prop} (h : ta σ H fun x H1 => tr σ H1 fun xs H2 => Q (x :: xs) H2) : tCons ta tr σ H Q := h
theorem nx_of {a b : TS} {D : Ends} {r : VK} {k c : L2.St → Hp → Prop} {σ : L2.St} {H : Hp} (h : tSeq a b D σ H) : Ends.nx { nx := tSeq a b D, rt := r, bk := k, ct := c } σ H := h
section
variable {X : Cx}
/-! ### a tuple against (), a list against [] -/
def rEqT0 (K : PySem.W.Frag) : R2 := fun x y H Q => ∃ a b xs, x = .ref a ∧ y = .ref b ∧ SqT K H a xs ∧ SqT K H b [] ∧ Q (.bl xs.isEmpty) H
theorem op_eqT0 (hu : X.A.units + 64 < cLine) : OpR X (compareOp .Eq) (rEqT0 X.K) := by
  intro pins s σ H x y v u Q I rx ry h
  obtain ⟨a, b, xs, rfl, rfl, ha, hb, q⟩ := h
  cases (show v = Value.ref a from rx)
  cases (show u = Value.ref b from ry)
  obtain ⟨its, r1, p1, _⟩ := I.tuple ha
  obtain ⟨its2, r2, p2, _⟩ := I.tuple hb
  cases r2
  refine PySem.W.eq_tuplesT (n := 0) (e := fun _ => true) p1 p2 (fun j h1 h2 => absurd h2 (by simp)) (by omega) ⟨.bl xs.isEmpty, H, I, ?_, q⟩
  have hl := r1.length
  show Value.bool _ = Value.bool _
  cases xs with
  | nil =>
    cases r1
    rfl
  | cons x xs =>
    cases its with
    | nil => cases r1
    | cons i is => simp
def rEqL0 (K : PySem.W.Frag) : R2 := fun x y H Q => ∃ a b xs, x = .ref a ∧ y = .ref b ∧ SqL K H a xs ∧ SqL K H b [] ∧ Q (.bl xs.isEmpty) H
theorem op_eqL0 (hu : X.A.units + 64 < cLine) : OpR X (compareOp .Eq) (rEqL0 X.K) := by
  intro pins s σ H x y v u Q I rx ry h
  obtain ⟨a, b, xs, rfl, rfl, ha, hb, q⟩ := h
  cases (show v = Value.ref a from rx)
  cases (show u = Value.ref b from ry)
  obtain ⟨its, r1, p1, _⟩ := I.list ha
  obtain ⟨its2, r2, p2, _⟩ := I.list hb
  cases r2
  cases xs with
  | nil =>
    cases r1
    exact PySem.W.eq_listsT (n := 0) (e := fun _ => true) p1.isList p2.isList rfl (fun j h1 h2 => absurd h2 (by simp)) (by omega) ⟨.bl true, H, I, rfl, q⟩
  | cons x xs =>
    cases its with
    | nil => cases r1
    | cons i is => exact SeqAt.eq_list_lengthsAt p1.isList p2.isList (by simp) (by omega) ⟨.bl false, H, I, rfl, q⟩
/-! ### t * 1 -/
theorem tuple_mul1 (l : Addr) (items : Array Value) (n : Nat) (dd : Option Addr) (sl : Array (Option Value)) (u : Tok) :
    Meets (Builtin.«tuple.__mul__» ⟨[.ref l, .int 1 u], []⟩) (fun _ R s => s.heap.get? l = some { cls := .type "tuple", dict := dd, data := .seq items n, slots := sl } ∧ R (.ok (.ret (Value.ref l))) s) :=
  .of_wp fun prog w A R s h => by
    obtain ⟨hp, g, d, tk, os⟩ := s
    obtain ⟨hl, h⟩ := h
    have f1 := AutoSeq1.idx_int
    wp_walk using wpAny_loadPart' hl
    exact ⟨_, rfl, h⟩
def rRepA (K : PySem.W.Frag) : R2 := fun x y H Q => ∃ l k xs, x = .ref l ∧ y = .int k ∧ SqT K H l xs ∧ xs ≠ [] ∧ 1 ≤ k ∧ k ≤ 1000 ∧ xs.length ≤ 1000 ∧
  (k = 1 → Q (.ref l) H) ∧ (2 ≤ k → ∀ p, H p = none → Q (.ref p) (upd H p (.tup (List.replicate k.toNat xs).flatten)))
theorem op_repA : OpR X (binaryOp .Mult) (rRepA X.K) := by
  intro pins s σ H x y v u Q I rx ry h
  obtain ⟨l, k, xs, rfl, rfl, hT, hne, h1, h2, hz, q1, q2⟩ := h
  by_cases hk : k = 1
  · subst hk
    cases rx
    obtain ⟨t, rfl⟩ := ry
    obtain ⟨its, r, ⟨⟨cls, dd, data, sl⟩, ho, hc, n, hd⟩, hs⟩ := I.tuple hT
    simp only at hc hd
    subst hc hd
    exact wpAny_binaryOp_repeat_ref (T := "tuple") (U := "int") (by decide) ⟨_, ho, rfl⟩ (fun s' => typeIs_int s' 1 t) noFill_tuple_mul F.fills_int_mul F.slot_int_rmul repeat_tuple F.slot_int_index.lookup
      (call_meets F.slot_int_rmul (typeIs_int s 1 t) F.entry_int_rmul (F.args_int_rmul_2 _ _) (int_rmul_tuple 1 t l its.toArray n dd sl)
        ⟨ho, rfl, ⟨_, ho, rfl⟩, call_meets F.slot_tuple_mul ⟨_, ho, rfl⟩ F.entry_tuple_mul (F.args_tuple_mul_2 _ _) (tuple_mul1 l its.toArray n dd sl t) ⟨ho, .ref l, H, I, rfl, q1 rfl⟩⟩)
  · exact op_repT pins s σ H _ _ v u Q I rx ry ⟨l, k, xs, rfl, rfl, hT, hne, by omega, h2, hz, q2 (by omega)⟩
/-! ### t[::-1] -/
theorem applied_rev {prog : Program} {w : World} {A : Around} {E : Value → Shared → Prop} {s : Shared} {sl : Addr} {vl vu vs : Value} {n : Nat} {Q : Int × Int × Nat → Shared → Prop} (hs : s.heap.IsSliceOf sl vl vu vs) (pl : IsPart vl none) (pu : IsPart vu none) (ps : IsPart vs (some (-1)))
    (h : Q ((n : Int) - 1, -1, n) s) : wpAny (model prog w) A (Builtin.Slice.sliceApplied (.ref sl) (pure (n : Int))) Q E s := by
  obtain ⟨os, hos, hcs, hds⟩ := id hs
  unfold Builtin.Slice.sliceApplied Builtin.Slice.sliceFields
  refine wpAny_bind (wpAny_bind (wpAny_field hos hds (x := vl) rfl (wpAny_bind (wpAny_field hos hds (x := vu) rfl (wpAny_bind (wpAny_field hos hds (x := vs) rfl (wpAny_pure ?_)))))))
  refine wpAny_bind (HT.slicePart_ ps ?_)
  show wpAny _ _ (if ((-1 : Int) == 0) = true then _ else _) _ _ s
  rw [if_neg (by decide)]
  refine wpAny_bind (HT.slicePart_ pl (wpAny_bind (HT.slicePart_ pu (wpAny_bind (wpAny_pure ?_)))))
  show wpAny _ _ (pure ((n : Int) - 1, (-1 : Int), Builtin.Slice.slicePlaces ((n : Int) - 1) (-1) (-1))) _ _ s
  have e : Builtin.Slice.slicePlaces ((n : Int) - 1) (-1) (-1) = n := by
    unfold Builtin.Slice.slicePlaces
    rw [if_neg (by decide)]
    by_cases hn : (n : Int) - 1 > -1
    · rw [if_pos hn, show (- -1 : Int) = 1 by decide, Int.ediv_one]; omega
    · rw [if_neg hn]; omega
  rw [e]
  exact wpAny_pure h
theorem pick_rev (xs : Array Value) : ((List.range xs.size).filterMap fun (m : Nat) => xs[((xs.size : Int) - 1 + (m : Int) * (-1)).toNat]?).toArray = xs.toList.reverse.toArray := by
  have e : ((List.range xs.size).filterMap fun (m : Nat) => xs[((xs.size : Int) - 1 + (m : Int) * (-1)).toNat]?) = ((List.range xs.size).map fun k => xs.size - 1 - k).filterMap (xs[·]?) := by
    rw [List.filterMap_map]
    refine congrArg (fun g => List.filterMap g (List.range xs.size)) ?_
    funext m
    show xs[((xs.size : Int) - 1 + (m : Int) * (-1)).toNat]? = xs[xs.size - 1 - m]?
    exact congrArg (fun z => xs[z]?) (by omega)
  rw [e, PySem.W.krv_range, List.filterMap_reverse, PySem.W.krv_all]
theorem item_rev {prog : Program} {w : World} {A : Around} {E : Value → Shared → Prop} {s : Shared} {t sl : Addr} {items : Array Value} {vl vu vs : Value} {Q : Value → Shared → Prop} (ht : IsTup s.heap t items) (hs : s.heap.IsSliceOf sl vl vu vs) (pl : IsPart vl none) (pu : IsPart vu none) (ps : IsPart vs (some (-1)))
    (h : Q (.ref s.heap.objs.size) { s with heap := s.heap.push { cls := .type "tuple", data := .seq items.toList.reverse.toArray } }) (hz : items.size ≤ sizeLine) : wpAny (model prog w) A (getItem (.ref t) (.ref sl)) Q E s := by
  have fits : sizeOk (.seq items.toList.reverse.toArray) := by
    show items.toList.reverse.toArray.size ≤ sizeLine
    rw [List.size_toArray, List.length_reverse, Array.length_toList]
    exact hz
  obtain ⟨os, hos, hcs, hds⟩ := id hs
  have hTs : s.TypeIs (.ref sl) "slice" := ⟨os, hos, hcs⟩
  unfold getItem
  try with_reducible refine wpAny_holding ?_
  first | refine wpAny_bind (wpAny_pure ?_) | skip
  refine wpAny_bind (wpAny_sequenceKey ht.typeIs (by decide) ?_)
  refine wpAny_bind (wpAny_callSpecial?_slot (name := Str.ofString "__getitem__") ht.typeIs PyProof.Rows.slot_tuple_getitem (wpAny_call_entry PyProof.Rows.slot_tuple_getitem ht.typeIs entry_tuple_getitem ?_ (args_tuple_getitem _ _)))
  show wpAny _ _ (Builtin.Tuple.tupleItemsOf (.ref t) >>= _) _ _ s
  refine wpAny_bind (tupleItemsOf_ ht ?_)
  refine wpAny_bind (wpAny_typeOf hTs ?_)
  rw [if_pos (by decide)]
  refine wpAny_bind (applied_rev hs pl pu ps ?_)
  have hno : ¬ (((items.size : Int) - 1 == 0 && (-1 : Int) == 1 && items.size == items.size) = true) := by simp
  show wpAny _ _ (if ((items.size : Int) - 1 == 0 && (-1 : Int) == 1 && items.size == items.size) = true then _ else _) _ _ s
  rw [if_neg hno, pick_rev]
  first
    | exact wpAny_bind (m := Builtin.Tuple.tupleExact _) (wpAny_newObj_type (wpAny_pure ⟨_, rfl, wpAny_pure h⟩) fits)
    | exact wpAny_bind (m := Builtin.Tuple.tupleExact _) (wpAny_newObj_type (wpAny_bind (wpAny_pure (wpAny_pure ⟨_, rfl, wpAny_pure h⟩))) fits)
    | exact wpAny_bind (wpAny_bind (m := Builtin.Tuple.tupleExact _) (wpAny_newObj_type (wpAny_pure (wpAny_pure ⟨_, rfl, wpAny_pure h⟩)) fits))
    | exact wpAny_bind (wpAny_bind (m := Builtin.Tuple.tupleExact _) (wpAny_newObj_type (wpAny_pure ⟨_, rfl, wpAny_pure h⟩) fits))
def tRevT (K : PySem.W.Frag) (te : TE) : TE := fun σ H Q => te σ H fun x H1 => ∃ a xs, x = .ref a ∧ SqT K H1 a xs ∧ ∀ p, H1 p = none → Q (.ref p) (upd H1 p (.tup xs.reverse))
theorem pe_revT {e : Expr} {te : TE} {k : Nat} {p1 p2 p3 pos : Pos} (he : PE X e te) : PE X (.Subscript e (.Slice none none (some (.UnaryOp .USub (.Constant (.int 1) k p1) p2)) p3) pos) (tRevT X.K te) := by
  refine ⟨fun pins s σ H Q I h => ?_⟩
  refine Subscript_ (thn (he.run pins s σ H _ I h) fun v s1 ⟨x, H1, I1, r1, q1⟩ => ?_)
  obtain ⟨a, xs, ex, hx, q⟩ := q1
  subst ex
  cases r1
  have hst : PO X (some (.UnaryOp .USub (.Constant (.int 1) k p1) p2)) (tPart (tUn (rU fun i => .int (-i)) (tC (.int 1)))) := po_some (pe_un un_neg pe_int)
  refine wpAny_Slice (thn (po_none.run pins s1 σ H1 (fun o H2 => o = none ∧ H2 = H1) I1 ⟨rfl, rfl⟩) fun vl s2 ⟨l, H2, I2, pl, el, e2⟩ => ?_)
  subst el e2
  refine thn (po_none.run pins s2 σ H2 (fun o H3 => o = none ∧ H3 = H2) I2 ⟨rfl, rfl⟩) fun vu s3 ⟨u, H3, I3, pu, eu, e3⟩ => ?_
  subst eu e3
  refine thn (hst.run pins s3 σ H3 (fun o H4 => o = some (-1) ∧ H4 = H3) I3 ⟨1, rfl, -1, rfl, rfl, rfl⟩) fun vs s4 ⟨o, H4, I4, ps, eo, e4⟩ => ?_
  subst eo e4
  have I5 : Inv X pins σ H4 { s4 with heap := s4.heap.push { cls := .type "slice", data := .fields #[vl, vu, vs] } } := I4.kept (t' := s4.toks) fun b ob q => Heap.get?_push_of_some _ q
  obtain ⟨its, r, ht, hz⟩ := I5.tuple hx
  have hlen := r.length
  show wpAny (model X.prog X.w) X.A (subscriptTail e (.Slice none none (some (.UnaryOp .USub (.Constant (.int 1) k p1) p2)) p3) (.ref a) (.ref s4.heap.objs.size)) (EP X pins σ Q) X.xe { s4 with heap := s4.heap.push { cls := .type "slice", data := .fields #[vl, vu, vs] } }
  refine tail_any (ops := [.ref a, .ref s4.heap.objs.size]) ht.typeIs (PyProof.Rows.slot_tuple_getitem.lookup) ?_ (by with_unfolding_all rfl)
  refine item_rev ht (Heap.IsSliceOf.new _ vl vu vs) pl pu ps ?_ (by rw [List.size_toArray]; omega)
  refine ⟨.ref _, _, I5.laid (t' := s4.toks) (o := .tup xs.reverse) (fun b ob q => Heap.get?_push_of_some _ q) (Nat.le_refl _) ?_, rfl, q _ (I5.hok.fresh (Nat.le_refl _))⟩
  exact ⟨by rw [List.length_reverse]; exact hz, _, r.reverse, IsTup.new _ _⟩
/-! ### a def called by names alone -/
theorem pe_kw0 {CX : CXT} {k : Nat} {f : Addr} {fd : FuncData} {ps ks : List Str} {sp : Sp} {E : XK} {x : Str} {p pos : Pos} {kws : List Keyword} {tk : TA} {g : List Value → List Value → List Value} {gV : List V → List V → List V}
    (F : FnOk X.prog X.w X.K X.mg X.base CX k f fd ps sp) (hr : Room k X.A) (hg : Gl X x) (hm : X.mg x = some (.ref f)) (hk : PySem.W.keepIn X.K (.ref f) = true) (hb : KBinds X.K fd ps ks g gV) (hx : Passes CX X E) (hkw : PK X kws tk)
    (hall : (backToKw pos (keywordEach kws X.env)).all (·.1.isSome) = true := by rfl) (hks : (backToKw pos (keywordEach kws X.env)).filterMap (·.1) = ks := by rfl) (hdb : (x == ("__debug__" : Str)) = false := by decide)
    (hpl : ((backTo pos (starEach [] X.env)).any (·.1) || (backToKw pos (keywordEach kws X.env)).any (·.1.isNone)) = false := by rfl) :
    PE X (.Call (.Name x p) [] kws pos) (tCallK sp gV E tNil tk) := by
  refine ⟨fun pins s σ H Q I h => ?_⟩
  refine wpAny_Call_Name_kw (ld_glob I hg hm ?_ hdb)
  refine PySem.W.callWith_KW0 (h₀ := X.base) I.ok.mod.kin hk hall ?_ hpl
  refine thn (hkw.run pos pins s σ H _ I h) fun ws s2 ⟨zs, H2, I2, rz, q2⟩ => ⟨I2.kIn, ?_⟩
  rw [hks]
  exact run_fnk (us := []) (vs := []) F hr hb hx I2 .nil rz q2
/-! ### a comprehension over a text -/
theorem lc_str {x : Str} {g : TG} {tt : TT} {te : TE} {vs : List Nat} {σ : L2.St} {H1 : Hp} {D : Addr} {Qd : Hp → Prop} (Pv : Nat → Hp → Prop) (h0 : Pv 0 (upd H1 D (.lst [])))
    (hs : ∀ i c H, x.cps[i]? = some c → Pv i H → g (.str ⟨#[c]⟩) (wipe σ vs) H fun σ2 H2 => wipe σ2 vs = wipe σ vs ∧ tt σ2 H2 fun b H3 =>
      if b = true then te σ2 H3 fun y H4 => ∃ acc, H4 D = some (.lst acc) ∧ acc.length < sizeLine ∧ Pv (i + 1) (upd H4 D (.lst (acc ++ [y]))) else Pv (i + 1) H3) (hd : ∀ H, Pv x.cps.size H → Qd H) :
    ∃ W : Nat → Nat → Hp → Prop, (∃ m, W 0 m (upd H1 D (.lst []))) ∧ ∀ i m H, W i m H →
      ((Its x).stop i H ∧ Qd H) ∨ ((Its x).go i H ∧ ∃ Nx : Hp → Prop, (∀ H', Nx H' → ∃ m', m' < m ∧ W (i + 1) m' H') ∧ ∀ y H', (Its x).yld i H y H' → g y (wipe σ vs) H' fun σ2 H2 => wipe σ2 vs = wipe σ vs ∧ tt σ2 H2 fun b H3 =>
        if b = true then te σ2 H3 fun y H4 => ∃ acc, H4 D = some (.lst acc) ∧ acc.length < sizeLine ∧ Nx (upd H4 D (.lst (acc ++ [y]))) else Nx H3) := by
  refine ⟨fun i m H => m = x.cps.size - i ∧ i ≤ x.cps.size ∧ Pv i H, ⟨_, rfl, Nat.zero_le _, h0⟩, ?_⟩
  rintro i m H ⟨rfl, hi, p⟩
  by_cases hlt : i < x.cps.size
  · refine .inr ⟨hlt, Pv (i + 1), fun H' p' => ⟨x.cps.size - (i + 1), by omega, rfl, hlt, p'⟩, fun y H' hy => ?_⟩
    obtain ⟨rfl, c, hc, rfl⟩ := hy
    exact hs i c _ hc p
  · have e : i = x.cps.size := by omega
    subst e
    exact .inl ⟨Nat.le_refl _, hd _ p⟩
end
end My

set_option Elab.async false
set_option linter.all false
set_option maxRecDepth 100000
set_option maxHeartbeats 4000000
namespace My
open PySem L2 PyProof.Rows
/-- repr of a list that is read as plain data; the def is called where nothing else is being shown -/
theorem call_reprL {X : Cx} (hg : X.A.guards = some []) (hu : X.A.units + 64 < cLine) : CallR X (.builtin "repr") (fun xs H Q => ∃ a d, xs = [.ref a] ∧ Dp X.K H (.ref a) d ∧ d.showable = true ∧ d.hasDict = false ∧ d.depth ≤ 60 ∧ d.shown.length ≤ sizeLine ∧ Q (.str d.shown) H) := by
  intro pins s σ H xs us Q I r h
  obtain ⟨a, d, rfl, hd, h1, h2, h3, h4, q⟩ := h
  obtain ⟨u, rfl, ru⟩ := vals1 r
  cases (show u = Value.ref a from ru)
  obtain ⟨as, rd⟩ := Dp.reads I d _ _ hd rfl
  exact repr_of_reads' rd h1 (PyData.noDict_hsm h2) hg (by omega) (fun _ _ e => e) (fun h' u tk hk => ⟨.str _, H, I.kept (t' := tk) hk, ⟨_, rfl⟩, q⟩) h4
/-- a def's promise where nothing is being shown around it -/
structure FnG (P : Program) (w : World) (K : PySem.W.Frag) (mg : Str → Option Value) (base : Heap) (k : Nat) (f : Addr) (fd : FuncData) (ps : List Str) (sp : Sp) : Prop where
  run : ∀ (A : Around) (outer : List Env) (s : Shared) (H : Hp) (args : Args) (us : List Value) (vs : List V) (Q : VK) (E : XK), A.guards = some [] → Room k A → Env0 P w K mg base A outer s H → BindsTo s fd args (ps.zip us) → Vals vs us → sp vs H Q E →
    codeAny (model P w) A (.call (.ref f) args) (CR CX0 outer P w H s Q E) s
theorem okG {P : Program} {w : World} {K : PySem.W.Frag} {mg : Str → Option Value} {base : Heap} {x qual : Str} {st : Stmt} {f : Addr} {fd : FuncData} {N ps : List Str} {k : Nat} {sp : Sp} (F : Fun K x qual st f fd) (S : FnScope N ps (defScope st)) (len : ∀ vs H Q E, sp vs H Q E → vs.length = ps.length)
    (hbody : ∀ (cdv : Value) (A : Around) (outer : List Env) (s : Shared) (H : Hp) (vs : List V) (Q : VK) (E : XK), A.guards = some [] → Room k (A.deeper (envOfC qual (defScope st) s.heap.objs.size f cdv)) → sp vs H Q E →
      ∃ t, PSs (cxOf CX0 P w K mg base N qual (defScope st) f cdv A outer s H E).nox (defBody st) t ∧ t { nx := fun _ H' => Q .non H', rt := Q } (start N vs) H) : FnG P w K mg base (k + 1) f fd ps sp := by
  refine ⟨fun A outer s H args us vs Q E hg => ?_⟩
  obtain ⟨oc, od, kV, doc, pm, an, cdv, ct, osl, rfl, lk, hcd⟩ := F.ex
  intro hr e0 hb r hsp
  have hl := len _ _ _ _ hsp
  have KX : K.In s.heap := e0.mod.kin.keeps fun b o e => (e0.bs b o e).1
  have lim : s.heap.NoLimit := e0.mod.nolimit.keeps fun b o e => (e0.bs b o e).1
  have kinds : ∀ y ∈ ps.zip us, (defScope st).names.lookup y.1 = some .local ∨ ((defScope st).names.lookup y.1 = some .cell ∧ ((cellsFrom (s.heap.objs.size + 1) (defScope st).names []).lookup y.1).isSome = true) := by
    rintro ⟨n, v⟩ hy
    rcases S.par n (List.of_mem_zip hy).1 with q | q
    · exact .inl q
    · exact .inr ⟨q, PySem.W.cellsFrom_some _ _ _ (.inl q)⟩
  refine codeAny_call_function hr.depth (KX _ _ lk) rfl S.co S.gen rfl (PySem.W.codeRec_of KX hcd) (hb _ _ _ _ ?_)
  refine wpAny_newFunctionEnv_cells S.kind kinds fun env he s1 x => ?_
  subst he
  refine ⟨lim.keeps x.toInCall.keep, codeAny_func ?_⟩
  obtain ⟨t, ht0, hq⟩ := hbody cdv A outer s H vs Q E hg (hr.deeper _) hsp
  have ht := ht0.nox
  have I : Inv (cxOf CX0 P w K mg base N qual (defScope st) f cdv A outer s H E) [] (start N vs) H s1 := inv_start S hr.hd e0 hl r x
  refine wpAny_mono (ht.run [] s1 (start N vs) H _ I hq) (fun fl s' hs => ?_) fun e s' hs => hs
  have fin : ∀ {σ' : L2.St} {H' : Hp} {v : V} {u : Value}, Inv (cxOf CX0 P w K mg base N qual (defScope st) f cdv A outer s H E) [] σ' H' s' → RelV v u → Q v H' → CE outer P w H s Q u s' := fun {σ' H' v u} J rv q =>
    ⟨v, H', J.os, J.bare, J.base, J.hok, rv, q⟩
  cases fl with
  | ret u =>
    obtain ⟨v, σ', H', J, rv, q⟩ := hs
    exact fin J rv q
  | next =>
    obtain ⟨σ', H', J, q⟩ := hs
    exact fin (v := V.non) (u := Value.none) J rfl q
  | brk =>
    obtain ⟨σ', H', J, q⟩ := hs
    exact q.elim
  | cont =>
    obtain ⟨σ', H', J, q⟩ := hs
    exact q.elim
/-- the law's call, from such a promise -/
theorem law_callG {P : Program} {w : World} {K : PySem.W.Frag} {mg mb : Str → Option Value} {k : Nat} {fa a : Addr} {fd : FuncData} {x : Str} {sp : Sp} {s1 : Shared} {vs : List Value} {ns : List Int}
    (KX : K.In s1.heap) (hns : s1.heap.Ns mainGlobals mg) (hb : s1.heap.Ns builtinsNs mb) (hbb : ∀ x : Str, x ≠ "__name__" → mb x = bootBuiltins x) (hlim : s1.heap.NoLimit) (hg : s1.gens = #[])
    (ha : s1.heap.get? a = some { cls := .type "list", data := .seq vs.toArray }) (hi : IntsAre vs ns) (hl : ns.length ≤ sizeLine) (hr : Room k callerA)
    (F : ∀ base : Heap, K.In base → base.Ns mainGlobals mg → FnG P w K mg base k fa fd [x] sp) (hbind : ∀ (s : Shared) (u : Value), BindsTo s fd ⟨[u], []⟩ [(x, u)])
    (hsp : ∀ H : Hp, SqL K H a (ns.map V.int) → sp [.ref a] H (fun v _ => v = .bl true) fun _ _ _ => False) :
    codeAny (model P w) callerA (.call (.ref fa) ⟨[.ref a], []⟩) (fun r s' => r = .ok (.ret (.bool true)) ∧ OldK s1.heap s'.heap ∧ s'.os = s1.os ∧ AllBare s'.gens) s1 := by
  have rv := vals_ints hi
  have lenV := hi.length
  have core : ∀ H : Hp, Only H → SqL K H a (ns.map V.int) → HOk P w H s1.heap → (∀ b, H b ≠ none → b = a) → (H a ≠ none → K.lookup a = none) →
      codeAny (model P w) callerA (.call (.ref fa) ⟨[.ref a], []⟩) (fun r s' => r = .ok (.ret (.bool true)) ∧ OldK s1.heap s'.heap ∧ s'.os = s1.os ∧ AllBare s'.gens) s1 := by
    intro H hO hS hok hA hK
    have free : ∀ {b : Addr} {o : Obj} {es : Array DictEntry} {ep : Nat}, s1.heap.get? b = some o → o.data = .dict es ep → H b = none := by
      intro b o es ep e dt
      cases hb' : H b with
      | none => rfl
      | some u =>
        have eb : b = a := hA b (by rw [hb']; simp)
        subst eb
        rw [ha] at e
        cases e
        cases (show Data.seq vs.toArray _ = Data.dict es ep from dt)
    have nsK : ∀ {b : Addr} {m : Str → Option Value}, s1.heap.Ns b m → (hidT s1.heap H).Ns b m := by
      rintro b m ⟨o, es, ep, e, dt, r⟩
      exact ⟨o, es, ep, hidT_get e (free e dt), dt, r⟩
    have hKb : K.In (hidT s1.heap H) := by
      intro b o e
      refine hidT_get (KX b o e) ?_
      cases hb' : H b with
      | none => rfl
      | some u =>
        have eb : b = a := hA b (by rw [hb']; simp)
        subst eb
        rw [hK (by rw [hb']; simp)] at e
        cases e
    have hM : Mod K mg (hidT s1.heap H) := ⟨hKb, nsK hns, ⟨mb, nsK hb, hbb⟩, let ⟨mc, h1, h2⟩ := hlim; ⟨mc, nsK h1, h2⟩⟩
    have e0 : Env0 P w K mg (hidT s1.heap H) callerA [] s1 H :=
      ⟨rfl, hM, fun b o e => of_hidT e, Nat.le_of_eq (hidT_size _ _), trivial, fun b hb => absurd (show b ∈ ([] : List Addr) from hb) (by simp), hok, .of_eq hg⟩
    refine codeAny_mono ((F _ hKb (nsK hns)).run callerA [] s1 H ⟨[.ref a], []⟩ [.ref a] [.ref a] _ _ rfl hr e0 (hbind s1 (.ref a)) (.cons rfl .nil) (hsp H hS)) fun r s' h => ?_
    cases r with
    | error e => exact False.elim h
    | ok fl =>
      cases fl with
      | next => exact False.elim h
      | brk => exact False.elim h
      | cont => exact False.elim h
      | ret u =>
        obtain ⟨v, H', os, bare, un, hok', r', q⟩ := h
        cases (show v = .bl true from q)
        obtain rfl : u = Value.bool true := r'
        refine ⟨rfl, OldK.of_keep fun b o e => ?_, os, bare⟩
        cases hb' : H b with
        | none => exact un.keep b o e hb' (by intro z; exact absurd (show b ∈ ([] : List Addr) from z) (by simp)) (by simp)
        | some u =>
          rcases hO b with z | ⟨ob, xs, z⟩
          · rw [hb'] at z; cases z
          · obtain ⟨e1, _⟩ := hok b _ z
            obtain ⟨e2, _⟩ := hok' b _ (un.frzs b ob _ z)
            rw [e] at e1
            cases e1
            exact e2
  cases hk : K.lookup a with
  | some o =>
    have e := KX a o hk
    rw [ha] at e
    cases e
    exact core (fun _ => none) (fun _ => .inl rfl) (.inr ⟨_, vs.toArray, _, hk, rfl, rfl, rfl, by rw [List.size_toArray, lenV]; exact hl, by simpa using rv⟩) (fun b u z => by cases (show (none : Option HO) = some u from z)) (fun b z => absurd rfl z) fun z => absurd rfl z
  | none =>
    refine core (fun b => if b = a then some (.frz { cls := .type "list", data := .seq vs.toArray } (.lst (ns.map V.int))) else none) (fun b => ?_) (.inl (.inr ⟨{ cls := .type "list", data := .seq vs.toArray }, if_pos rfl⟩)) (fun b u z => ?_) (fun b z => ?_) fun _ => hk
    · by_cases eb : b = a
      · exact .inr ⟨_, _, if_pos eb⟩
      · exact .inl (if_neg eb)
    · by_cases eb : b = a
      · cases ((if_pos eb).symm.trans z)
        subst eb
        exact ⟨ha, by rw [List.length_map]; exact hl, vs, _, rv, ha⟩
      · cases ((if_neg eb).symm.trans z)
    · by_cases eb : b = a
      · exact eb
      · exact absurd (if_neg eb) z
theorem walkG {l : PySem.W.OpenLaw} {n k : Nat} {q : Program} {loose : List Str} {XP : (Str → Option Value) → Heap → Prop} {YP : World → Heap → Prop} {d : DefRec} {K : Params → PySem.W.Frag} {sp : World → Sp} {x : Str}
    (hn : l.most = some n) (hn2 : n ≤ sizeLine) (hdf : d.params.defaults = []) (hr : Room k callerA) (hY : ∀ (w : World) (h : Heap), YP w h → (K w.params).In h)
    (F : ∀ (w : World) (mg : Str → Option Value) (fa : Addr) (h : Heap), (K w.params).In h → h.Ns mainGlobals mg → mg d.name = some (.ref fa) →
      ∃ fd : FuncData, (∀ (s : Shared) (u : Value), BindsTo s fd ⟨[u], []⟩ [(x, u)]) ∧ ∀ base : Heap, (K w.params).In base → base.Ns mainGlobals mg → FnG l.prog w (K w.params) mg base k fa fd [x] (sp w))
    (hsp : ∀ (w : World) (H : Hp) (a : Addr) (ns : List Int), ns.length ≤ n → SqL (K w.params) H a (ns.map V.int) → sp w [.ref a] H (fun v _ => v = .bl true) fun _ _ _ => False) :
    PySem.W.WalkO q loose XP YP l.row.toRowW d [] (fun f vs => PySem.call f vs) := by
  refine Att.attach_call hn hdf fun w s0 s1 mg mb fa o pm cd doc a vs ns G Y ho hd hcd hmg hobj hints hlen hg => ?_
  have KX := hY w _ Y
  obtain ⟨fd, hb, hF⟩ := F w mg fa _ KX G.T.g hmg
  exact law_callG KX G.T.g G.T.b G.T.builtins G.T.nolimit hg hobj hints (Nat.le_trans hlen hn2) hr hF hb (fun H hS => hsp w H a ns hlen hS)
end My

set_option Elab.async false
set_option linter.all false
set_option maxRecDepth 100000
set_option maxHeartbeats 4000000
namespace My
open PySem L2
/-! ### things as trees -/
def base (H : Hp) (T : V → List PyData → Prop) (v : V) : PyData → Prop
  | .none => v = .non
  | .bool b => v = .bl b
  | .int i => v = .int i
  | .str x => v = .str x
  | .list _ => ∃ a xs, v = .ref a ∧ H a = some (.lst xs)
  | .dict _ => ∃ a, v = .ref a ∧ H a = some (.dK [])
  | .tuple ds => T v ds
/-- v is the tree d, tuples at most n within one another; of a list and a dict only that they are such -/
def Rep (H : Hp) : Nat → V → PyData → Prop
  | 0 => base H fun _ _ => False
  | n + 1 => base H fun v ds => ∃ a xs, v = .ref a ∧ H a = some (.tup xs) ∧ Paired (Rep H n) xs ds
theorem base_mono {H H' : Hp} {T T' : V → List PyData → Prop} {v : V} {d : PyData} (hl : ∀ a xs, H a = some (.lst xs) → H' a = some (.lst xs)) (hd : ∀ a, H a = some (.dK []) → H' a = some (.dK [])) (ht : ∀ ds, T v ds → T' v ds)
    (h : base H T v d) : base H' T' v d := by
  cases d with
  | none => exact h
  | bool b => exact h
  | int i => exact h
  | str x => exact h
  | list ds =>
    obtain ⟨a, xs, e, q⟩ := h
    exact ⟨a, xs, e, hl a xs q⟩
  | dict kvs =>
    obtain ⟨a, e, q⟩ := h
    exact ⟨a, e, hd a q⟩
  | tuple ds => exact ht ds h
theorem Rep.mono {H : Hp} : ∀ {n m : Nat} {v : V} {d : PyData}, n ≤ m → Rep H n v d → Rep H m v d
  | 0, 0, _, _, _, h => h
  | 0, m + 1, _, _, _, h => base_mono (fun _ _ q => q) (fun _ q => q) (fun _ z => z.elim) h
  | n + 1, 0, _, _, h, _ => absurd h (by omega)
  | n + 1, m + 1, v, d, hm, h => base_mono (fun _ _ q => q) (fun _ q => q) (fun ds ⟨a, xs, e, q, p⟩ => ⟨a, xs, e, q, Paired.mapP p fun _ _ z => Rep.mono (by omega) z⟩) h
/-- all but what stands at d is kept -/
def Kp (d : Addr) (H H' : Hp) : Prop := ∀ c o, H c = some o → c ≠ d → H' c = some o
theorem Kp.refl (d : Addr) (H : Hp) : Kp d H H := fun _ _ e _ => e
theorem Kp.trans {d : Addr} {H H1 H2 : Hp} (a : Kp d H H1) (b : Kp d H1 H2) : Kp d H H2 := fun c o e n => b c o (a c o e n) n
theorem Kp.of {d : Addr} {H H' : Hp} (s : Same H H') : Kp d H H' := fun c o e _ => s c o e
theorem Rep.keep {H H' : Hp} {d : Addr} {kvs : List (Key × V)} (hd : H d = some (.dK kvs)) (hne : kvs ≠ []) (k : Kp d H H') : ∀ {n : Nat} {v : V} {x : PyData}, Rep H n v x → Rep H' n v x := by
  have kl : ∀ a xs, H a = some (.lst xs) → H' a = some (.lst xs) := fun a xs e => k a _ e (ne_of e hd (by intro z; cases z))
  have kd : ∀ a, H a = some (.dK []) → H' a = some (.dK []) := fun a e => k a _ e (ne_of e hd (by intro z; exact hne (HO.dK.inj z).symm))
  intro n
  induction n with
  | zero =>
    intro v x h
    exact base_mono kl kd (fun _ z => z) h
  | succ n ih =>
    intro v x h
    exact base_mono kl kd (fun ds ⟨a, xs, e, q, p⟩ => ⟨a, xs, e, k a _ q (ne_of q hd (by intro z; cases z)), Paired.mapP p fun _ _ z => ih z⟩) h
theorem Rep.same {H H' : Hp} (s : Same H H') : ∀ {n : Nat} {v : V} {x : PyData}, Rep H n v x → Rep H' n v x := by
  intro n
  induction n with
  | zero =>
    intro v x h
    exact base_mono (fun _ _ e => s _ _ e) (fun _ e => s _ _ e) (fun _ z => z) h
  | succ n ih =>
    intro v x h
    exact base_mono (fun _ _ e => s _ _ e) (fun _ e => s _ _ e) (fun ds ⟨a, xs, e, q, p⟩ => ⟨a, xs, e, s _ _ q, Paired.mapP p fun _ _ z => ih z⟩) h
/-! ### sizes -/
mutual
def szD : PyData → Nat
  | .tuple ds => 1 + szL ds
  | .str x => 1 + x.length
  | .none => 1
  | .bool _ => 1
  | .int _ => 1
  | .list _ => 1
  | .dict _ => 1
def szL : List PyData → Nat
  | [] => 0
  | d :: ds => szD d + szL ds
end
theorem szD_pos (d : PyData) : 1 ≤ szD d := by
  cases d <;> simp [szD] <;> omega
theorem szL_app : ∀ (xs ys : List PyData), szL (xs ++ ys) = szL xs + szL ys
  | [], ys => by simp [szL]
  | x :: xs, ys => by
    rw [List.cons_append, szL, szL, szL_app xs ys]; omega
theorem szL_len : ∀ xs : List PyData, xs.length ≤ szL xs
  | [] => Nat.le_refl _
  | x :: xs => by
    have h1 := szL_len xs
    have h2 := szD_pos x
    rw [List.length_cons, szL]; omega
theorem szL_get : ∀ {xs : List PyData} {i : Nat} {d : PyData}, xs[i]? = some d → szD d ≤ szL xs
  | [], _, _, e => by simp at e
  | x :: xs, 0, d, e => by
    simp at e
    subst e
    rw [szL]; omega
  | x :: xs, i + 1, d, e => by
    have h := szL_get (xs := xs) (i := i) (d := d) (by simpa using e)
    rw [szL]; omega
theorem szL_td : ∀ (xs : List PyData) (i : Nat), szL (xs.take i) + szL (xs.drop i) = szL xs := fun xs i => by
  rw [← szL_app, List.take_append_drop]
theorem szL_rev : ∀ xs : List PyData, szL xs.reverse = szL xs
  | [] => rfl
  | x :: xs => by
    rw [List.reverse_cons, szL_app, szL_rev xs, szL, szL, szL]; omega
theorem szL_rep (d : PyData) : ∀ k : Nat, szL (List.replicate k d) = k * szD d
  | 0 => by simp [szL]
  | k + 1 => by
    rw [List.replicate_succ, szL, szL_rep d k, Nat.succ_mul]; omega
/-! ### words and worths, as both sides tell them -/
def letters : List Nat := (Str.ofString "abcdefghijklmnopqrstuvwxyz").cps.toList
def isWd (x : Str) : Bool := decide (1 ≤ x.length ∧ x.length ≤ 8) && x.cps.toList.all fun c => decide (c ∈ letters)
def leafW : PyData → Bool
  | .none => true
  | .int i => decide (-1000000000 ≤ i ∧ i ≤ 1000000000)
  | .str x => isWd x
  | _ => false
def isW : Nat → PyData → Bool
  | 0, .tuple _ => false
  | n + 1, .tuple ds => decide (ds.length ≤ 20) && ds.all (isW n)
  | _, d => leafW d
theorem isW_leaf {n : Nat} {d : PyData} (h : ∀ ds, d ≠ .tuple ds) : isW n d = leafW d := by
  cases n <;> cases d <;> first | rfl | exact absurd rfl (h _)
/-! ### texts -/
def leafT : PyData → Str
  | .none => "-"
  | .int i => toString i
  | .str x => x
  | _ => ""
def shW : Nat → PyData → Str
  | n + 1, .tuple ds => Txt.join " " ((("<" : Str) :: ds.map (shW n)) ++ [(">" : Str)])
  | _, d => leafT d
theorem shW_leaf {n : Nat} {d : PyData} (h : ∀ ds, d ≠ .tuple ds) : shW n d = leafT d := by
  cases n <;> cases d <;> first | rfl | exact absurd rfl (h _)
/-! ### two unlike worths have unlike texts -/
open TL in
theorem joinL_app (S : List Nat) : ∀ {ps qs : List (List Nat)}, ps ≠ [] → qs ≠ [] → joinL S (ps ++ qs) = joinL S ps ++ (S ++ joinL S qs)
  | [], _, h, _ => absurd rfl h
  | [p], [], _, h => absurd rfl h
  | [p], q :: r, _, _ => rfl
  | p :: p2 :: ps, qs, _, h => by
    show p ++ (S ++ joinL S ((p2 :: ps) ++ qs)) = (p ++ (S ++ joinL S (p2 :: ps))) ++ (S ++ joinL S qs)
    rw [joinL_app S (by simp) h]
    simp [List.append_assoc]
open TL in
theorem joinL_flat (S : List Nat) : ∀ {pss : List (List (List Nat))}, (∀ ps ∈ pss, ps ≠ []) → joinL S (pss.map (joinL S)) = joinL S pss.flatten
  | [], _ => rfl
  | [ps], _ => by simp [joinL]
  | ps :: qs :: r, h => by
    have h1 : ps ≠ [] := h ps (List.mem_cons_self ..)
    have h2 : qs ≠ [] := h qs (by simp)
    have h3 : (qs :: r).flatten ≠ [] := by
      rw [List.flatten_cons]
      intro z
      exact h2 (List.append_eq_nil_iff.mp z).1
    show joinL S ps ++ (S ++ joinL S ((qs :: r).map (joinL S))) = joinL S (ps :: qs :: r).flatten
    rw [joinL_flat S (fun z hz => h z (List.mem_cons_of_mem _ hz)), show (ps :: qs :: r).flatten = ps ++ (qs :: r).flatten from rfl, joinL_app S h1 h3]
def tkL : Nat → PyData → List (List Nat)
  | n + 1, .tuple ds => [60] :: ((ds.map (tkL n)).flatten ++ [[62]])
  | _, d => [TL.tl (leafT d)]
theorem tkL_leaf {n : Nat} {d : PyData} (h : ∀ ds, d ≠ .tuple ds) : tkL n d = [TL.tl (leafT d)] := by
  cases n <;> cases d <;> first | rfl | exact absurd rfl (h _)
theorem tkL_ne (n : Nat) (d : PyData) : tkL n d ≠ [] := by
  cases n <;> cases d <;> simp [tkL]
theorem tl_shW : ∀ (n : Nat) (d : PyData), TL.tl (shW n d) = TL.joinL [32] (tkL n d)
  | 0, d => by cases d <;> rfl
  | n + 1, .tuple ds => by
    show TL.tl (Txt.join " " ((("<" : Str) :: ds.map (shW n)) ++ [(">" : Str)])) = TL.joinL [32] ([60] :: ((ds.map (tkL n)).flatten ++ [[62]]))
    rw [TL.join_eq, TL.tl_join, show TL.tl " " = [32] by decide +kernel]
    have e1 : ((("<" : Str) :: ds.map (shW n)) ++ [(">" : Str)]).map TL.tl = ([[[60]]] ++ ds.map (tkL n) ++ [[[62]]]).map (TL.joinL [32]) := by
      rw [List.map_append, List.map_cons, List.map_map, List.map_append, List.map_append, List.map_map]
      have e2 : ds.map (TL.tl ∘ shW n) = ds.map (TL.joinL [32] ∘ tkL n) := List.map_congr_left fun d _ => tl_shW n d
      rw [e2, show TL.tl ("<" : Str) = [60] by decide +kernel, show [(">" : Str)].map TL.tl = [[62]] by decide +kernel]
      rfl
    rw [e1, joinL_flat [32] (fun ps hp => ?_)]
    · simp [List.flatten_append]
    · rcases List.mem_append.mp hp with hp | hp
      · rcases List.mem_append.mp hp with hp | hp
        · rw [List.mem_singleton.mp hp]; simp
        · obtain ⟨d, _, rfl⟩ := List.mem_map.mp hp
          exact tkL_ne n d
      · rw [List.mem_singleton.mp hp]; simp
  | n + 1, .none => rfl
  | n + 1, .bool _ => rfl
  | n + 1, .int _ => rfl
  | n + 1, .str _ => rfl
  | n + 1, .list _ => rfl
  | n + 1, .dict _ => rfl
theorem ofS_app (a b : String) : Str.ofString (a ++ b) = Str.ofString a ++ Str.ofString b := by
  apply TL.ext_tl
  rw [TL.tl_append]
  simp [TL.tl, Str.ofString_eq_toList]
theorem tl_int (i : Int) : TL.tl (leafT (.int i)) = if i < 0 then 45 :: TL.numL i.natAbs else TL.numL i.natAbs := by
  show TL.tl (Str.ofString (toString i)) = _
  cases i with
  | ofNat m =>
    rw [if_neg (by simp)]
    exact TL.tl_num m
  | negSucc m =>
    rw [if_pos (Int.negSucc_lt_zero m)]
    have h : toString (Int.negSucc m) = "-" ++ toString ((m + 1 : Nat) : Int) := rfl
    rw [h, ofS_app, TL.tl_append, TL.tl_num]
    rfl
theorem letters_lo : ∀ c ∈ letters, 97 ≤ c ∧ c ≤ 122 := by decide +kernel
theorem isWd_let {x : Str} (h : isWd x = true) : (∀ c ∈ TL.tl x, 97 ≤ c ∧ c ≤ 122) ∧ TL.tl x ≠ [] ∧ x.length ≤ 8 := by
  unfold isWd at h
  rw [Bool.and_eq_true, decide_eq_true_eq, List.all_eq_true] at h
  obtain ⟨⟨h1, h2⟩, h3⟩ := h
  refine ⟨fun c hc => letters_lo c (of_decide_eq_true (h3 c hc)), fun z => ?_, h2⟩
  rw [TL.len_tl, z] at h1
  exact absurd h1 (by decide)
/-- the sign of a leaf that is no tuple: its kind is seen at its first code -/
theorem leaf_inj {d e : PyData} (hd : leafW d = true) (he : leafW e = true) (h : TL.tl (leafT d) = TL.tl (leafT e)) : d = e := by
  have digs : ∀ (i : Int) (c : Nat), c ∈ TL.tl (leafT (.int i)) → c = 45 ∨ (48 ≤ c ∧ c ≤ 57) := by
    intro i c hc
    rw [tl_int] at hc
    have dg := TL.numL_digits i.natAbs
    split at hc
    · rcases List.mem_cons.mp hc with z | z
      · exact .inl z
      · exact .inr (dg c z)
    · exact .inr (dg c hc)
  have int_ne : ∀ i : Int, TL.tl (leafT (.int i)) ≠ [] ∧ TL.tl (leafT (.int i)) ≠ [45] := by
    intro i
    rw [tl_int]
    have n0 := TL.numL_ne i.natAbs
    split
    · refine ⟨by simp, fun z => n0 ?_⟩
      exact (List.cons.inj z).2
    · refine ⟨n0, fun z => ?_⟩
      have := TL.numL_digits i.natAbs 45 (by rw [z]; simp)
      omega
  have none_t : TL.tl (leafT .none) = [45] := by decide +kernel
  cases d with
  | none =>
    cases e with
    | none => rfl
    | int i => exact absurd (h.symm.trans none_t) (int_ne i).2
    | str x =>
      have hx := (isWd_let he).1
      have : (45 : Nat) ∈ TL.tl x := by
        rw [show TL.tl x = [45] from h.symm.trans none_t]; simp
      exact absurd (hx 45 this).1 (by decide)
    | bool b => exact absurd (show false = true from he) Bool.false_ne_true
    | list l => exact absurd (show false = true from he) Bool.false_ne_true
    | tuple l => exact absurd (show false = true from he) Bool.false_ne_true
    | dict l => exact absurd (show false = true from he) Bool.false_ne_true
  | int i =>
    cases e with
    | none => exact absurd (h.trans none_t) (int_ne i).2
    | int j =>
      rw [tl_int, tl_int] at h
      have ni := TL.numL_digits i.natAbs
      have nj := TL.numL_digits j.natAbs
      by_cases hi : i < 0 <;> by_cases hj : j < 0
      · rw [if_pos hi, if_pos hj] at h
        have := TL.numL_inj (List.cons.inj h).2
        have e : i = j := by omega
        rw [e]
      · rw [if_pos hi, if_neg hj] at h
        have := nj 45 (by rw [← h]; simp)
        omega
      · rw [if_neg hi, if_pos hj] at h
        have := ni 45 (by rw [h]; simp)
        omega
      · rw [if_neg hi, if_neg hj] at h
        have := TL.numL_inj h
        have e : i = j := by omega
        rw [e]
    | str x =>
      have hx := (isWd_let he).1
      have hn := (isWd_let he).2.1
      obtain ⟨c, r, hc⟩ := List.exists_cons_of_ne_nil hn
      have m1 : c ∈ TL.tl x := by rw [hc]; simp
      have m2 : c ∈ TL.tl (leafT (.int i)) := by
        rw [h]; exact m1
      have := hx c m1
      have := digs i c m2
      omega
    | bool b => exact absurd (show false = true from he) Bool.false_ne_true
    | list l => exact absurd (show false = true from he) Bool.false_ne_true
    | tuple l => exact absurd (show false = true from he) Bool.false_ne_true
    | dict l => exact absurd (show false = true from he) Bool.false_ne_true
  | str x =>
    have hx := (isWd_let hd).1
    have hn := (isWd_let hd).2.1
    obtain ⟨c, r, hc⟩ := List.exists_cons_of_ne_nil hn
    have m1 : c ∈ TL.tl x := by rw [hc]; simp
    cases e with
    | none =>
      have : (45 : Nat) ∈ TL.tl x := by
        rw [show TL.tl x = [45] from h.trans none_t]; simp
      exact absurd (hx 45 this).1 (by decide)
    | int j =>
      have m2 : c ∈ TL.tl (leafT (.int j)) := by
        rw [← h]; exact m1
      have := hx c m1
      have := digs j c m2
      omega
    | str y => rw [TL.ext_tl (show TL.tl x = TL.tl y from h)]
    | bool b => exact absurd (show false = true from he) Bool.false_ne_true
    | list l => exact absurd (show false = true from he) Bool.false_ne_true
    | tuple l => exact absurd (show false = true from he) Bool.false_ne_true
    | dict l => exact absurd (show false = true from he) Bool.false_ne_true
  | bool b => exact absurd (show false = true from hd) Bool.false_ne_true
  | list l => exact absurd (show false = true from hd) Bool.false_ne_true
  | tuple l => exact absurd (show false = true from hd) Bool.false_ne_true
  | dict l => exact absurd (show false = true from hd) Bool.false_ne_true
/-- no leaf's sign is a bracket, none has a blank -/
theorem leaf_no {d : PyData} (hd : leafW d = true) : TL.tl (leafT d) ≠ [60] ∧ TL.tl (leafT d) ≠ [62] ∧ (32 : Nat) ∉ TL.tl (leafT d) := by
  have key : ∀ c ∈ TL.tl (leafT d), c = 45 ∨ (48 ≤ c ∧ c ≤ 57) ∨ (97 ≤ c ∧ c ≤ 122) := by
    cases d with
    | none =>
      intro c hc
      have : TL.tl (leafT .none) = [45] := by decide +kernel
      rw [this] at hc
      exact .inl (List.mem_singleton.mp hc)
    | int i =>
      intro c hc
      rw [tl_int] at hc
      have dg := TL.numL_digits i.natAbs
      split at hc
      · rcases List.mem_cons.mp hc with z | z
        · exact .inl z
        · exact .inr (.inl (dg c z))
      · exact .inr (.inl (dg c hc))
    | str x =>
      intro c hc
      exact .inr (.inr ((isWd_let hd).1 c hc))
    | bool b => exact absurd (show false = true from hd) Bool.false_ne_true
    | list l => exact absurd (show false = true from hd) Bool.false_ne_true
    | tuple l => exact absurd (show false = true from hd) Bool.false_ne_true
    | dict l => exact absurd (show false = true from hd) Bool.false_ne_true
  refine ⟨fun z => ?_, fun z => ?_, fun z => ?_⟩
  · have := key 60 (by rw [z]; simp)
    omega
  · have := key 62 (by rw [z]; simp)
    omega
  · have := key 32 z
    omega
theorem isW_tup {n : Nat} {ds : List PyData} (h : isW n (.tuple ds) = true) : ∃ m, n = m + 1 ∧ ds.length ≤ 20 ∧ ∀ d ∈ ds, isW m d = true := by
  cases n with
  | zero => exact absurd h (by simp [isW])
  | succ m =>
    rw [isW, Bool.and_eq_true, decide_eq_true_eq, List.all_eq_true] at h
    exact ⟨m, rfl, h.1, h.2⟩
theorem notTup {d : PyData} : (∃ ds, d = .tuple ds) ∨ ∀ ds, d ≠ .tuple ds := by
  cases d with
  | tuple ds => exact .inl ⟨ds, rfl⟩
  | _ => exact .inr fun ds z => by cases z
theorem tk_pre : ∀ (n : Nat) {d e : PyData} {r r' : List (List Nat)}, isW n d = true → isW n e = true → tkL n d ++ r = tkL n e ++ r' → d = e ∧ r = r' := by
  intro n
  induction n with
  | zero =>
    intro d e r r' hd he h
    have nd : ∀ ds, d ≠ .tuple ds := fun ds z => by rw [z] at hd; exact absurd hd (by simp [isW])
    have ne : ∀ ds, e ≠ .tuple ds := fun ds z => by rw [z] at he; exact absurd he (by simp [isW])
    rw [isW_leaf nd] at hd
    rw [isW_leaf ne] at he
    rw [tkL_leaf nd, tkL_leaf ne] at h
    obtain ⟨h1, h2⟩ := List.cons.inj h
    exact ⟨leaf_inj hd he h1, h2⟩
  | succ n ih =>
    have lists : ∀ (ds es : List PyData) (r r' : List (List Nat)), (∀ d ∈ ds, isW n d = true) → (∀ e ∈ es, isW n e = true) → (ds.map (tkL n)).flatten ++ ([62] :: r) = (es.map (tkL n)).flatten ++ ([62] :: r') → ds = es ∧ r = r' := by
      have first : ∀ (d : PyData) (q : List (List Nat)) (t : List (List Nat)), isW n d = true → [62] :: t = tkL n d ++ q → False := by
        intro d q t hd h
        rcases @notTup d with ⟨ds, rfl⟩ | nd
        · obtain ⟨m, rfl, _, _⟩ := isW_tup hd
          rw [tkL] at h
          exact absurd (List.cons.inj h).1 (by decide)
        · rw [tkL_leaf nd] at h
          rw [isW_leaf nd] at hd
          exact (leaf_no hd).2.1 (List.cons.inj h).1.symm
      intro ds
      induction ds with
      | nil =>
        intro es r r' _ he h
        cases es with
        | nil => exact ⟨rfl, (List.cons.inj h).2⟩
        | cons e es =>
          rw [List.map_cons, List.flatten_cons, List.append_assoc] at h
          exact (first e _ _ (he e (List.mem_cons_self ..)) h).elim
      | cons d ds ihl =>
        intro es r r' hd he h
        cases es with
        | nil =>
          rw [List.map_cons, List.flatten_cons, List.append_assoc] at h
          exact (first d _ _ (hd d (List.mem_cons_self ..)) h.symm).elim
        | cons e es =>
          rw [List.map_cons, List.flatten_cons, List.append_assoc, List.map_cons, List.flatten_cons, List.append_assoc] at h
          obtain ⟨h1, h2⟩ := ih (hd d (List.mem_cons_self ..)) (he e (List.mem_cons_self ..)) h
          obtain ⟨h3, h4⟩ := ihl es r r' (fun z hz => hd z (List.mem_cons_of_mem _ hz)) (fun z hz => he z (List.mem_cons_of_mem _ hz)) h2
          exact ⟨by rw [h1, h3], h4⟩
    intro d e r r' hd he h
    rcases @notTup d with ⟨ds, rfl⟩ | nd
    · obtain ⟨m, em, _, kd⟩ := isW_tup hd
      cases em
      rcases @notTup e with ⟨es, rfl⟩ | ne
      · obtain ⟨m2, em2, _, ke⟩ := isW_tup he
        cases em2
        rw [tkL, tkL, List.cons_append, List.cons_append, List.append_assoc, List.append_assoc] at h
        obtain ⟨h1, h2⟩ := lists ds es r r' kd ke (List.cons.inj h).2
        exact ⟨by rw [h1], h2⟩
      · rw [tkL_leaf ne, tkL] at h
        rw [isW_leaf ne] at he
        exact ((leaf_no he).1 (List.cons.inj h).1.symm).elim
    · rcases @notTup e with ⟨es, rfl⟩ | ne
      · rw [tkL_leaf nd, tkL] at h
        rw [isW_leaf nd] at hd
        exact ((leaf_no hd).1 (List.cons.inj h).1).elim
      · rw [isW_leaf nd] at hd
        rw [isW_leaf ne] at he
        rw [tkL_leaf nd, tkL_leaf ne] at h
        obtain ⟨h1, h2⟩ := List.cons.inj h
        exact ⟨leaf_inj hd he h1, h2⟩
theorem tk_free : ∀ (n : Nat) {d : PyData}, isW n d = true → ∀ t ∈ tkL n d, (32 : Nat) ∉ t := by
  intro n
  induction n with
  | zero =>
    intro d hd t ht
    have nd : ∀ ds, d ≠ .tuple ds := fun ds z => by rw [z] at hd; exact absurd hd (by simp [isW])
    rw [isW_leaf nd] at hd
    rw [tkL_leaf nd] at ht
    rw [List.mem_singleton.mp ht]
    exact (leaf_no hd).2.2
  | succ n ih =>
    intro d hd t ht
    rcases @notTup d with ⟨ds, rfl⟩ | nd
    · obtain ⟨m, em, _, kd⟩ := isW_tup hd
      cases em
      rw [tkL] at ht
      rcases List.mem_cons.mp ht with z | z
      · rw [z]; decide
      · rcases List.mem_append.mp z with z | z
        · obtain ⟨l, hl, htl⟩ := List.mem_flatten.mp z
          obtain ⟨e, hee, rfl⟩ := List.mem_map.mp hl
          exact ih (kd e hee) t htl
        · rw [List.mem_singleton.mp z]; decide
    · rw [isW_leaf nd] at hd
      rw [tkL_leaf nd] at ht
      rw [List.mem_singleton.mp ht]
      exact (leaf_no hd).2.2
theorem shW_inj {n : Nat} {d e : PyData} (hd : isW n d = true) (he : isW n e = true) (h : shW n d = shW n e) : d = e := by
  have h1 : TL.joinL [32] (tkL n d) = TL.joinL [32] (tkL n e) := by
    rw [← tl_shW, ← tl_shW, h]
  have h2 := congrArg (TL.spl [32] 0 []) h1
  rw [TL.spl_join (tkL_ne n d) (tk_free n hd), TL.spl_join (tkL_ne n e) (tk_free n he)] at h2
  exact (tk_pre n (r := []) (r' := []) hd he (by rw [h2])).1
end My

set_option Elab.async false
set_option linter.all false
set_option maxRecDepth 100000
set_option maxHeartbeats 4000000
namespace My
open PySem L2
/-! ### how long a worth's text is, and its signs -/
def sumL : List (List Nat) → Nat
  | [] => 0
  | p :: ps => (p.length + 1) + sumL ps
theorem sumL_app : ∀ ps qs : List (List Nat), sumL (ps ++ qs) = sumL ps + sumL qs
  | [], qs => by simp [sumL]
  | p :: ps, qs => by
    rw [List.cons_append, sumL, sumL, sumL_app ps qs]; omega
theorem joinL_len : ∀ {ps : List (List Nat)}, ps ≠ [] → (TL.joinL [32] ps).length + 1 = sumL ps
  | [], h => absurd rfl h
  | [p], _ => by simp [TL.joinL, sumL]
  | p :: q :: r, _ => by
    have h := joinL_len (ps := q :: r) (by simp)
    show (p ++ ([32] ++ TL.joinL [32] (q :: r))).length + 1 = (p.length + 1) + sumL (q :: r)
    rw [List.length_append, List.length_append, ← h]
    simp only [List.length_cons, List.length_nil]
    omega
theorem joinL_mem {c : Nat} : ∀ {ps : List (List Nat)}, c ∈ TL.joinL [32] ps → c = 32 ∨ ∃ t ∈ ps, c ∈ t
  | [], h => by simp [TL.joinL] at h
  | [p], h => .inr ⟨p, by simp, h⟩
  | p :: q :: r, h => by
    rcases List.mem_append.mp (show c ∈ p ++ ([32] ++ TL.joinL [32] (q :: r)) from h) with z | z
    · exact .inr ⟨p, by simp, z⟩
    · rcases List.mem_append.mp z with z | z
      · exact .inl (List.mem_singleton.mp z)
      · rcases joinL_mem z with z | ⟨t, ht, hc⟩
        · exact .inl z
        · exact .inr ⟨t, List.mem_cons_of_mem _ ht, hc⟩
theorem leaf_len {d : PyData} (hd : leafW d = true) : (TL.tl (leafT d)).length + 1 ≤ 12 * szD d := by
  cases d with
  | none => decide +kernel
  | int i =>
    have h : -1000000000 ≤ i ∧ i ≤ 1000000000 := of_decide_eq_true hd
    rw [tl_int]
    have hn : (TL.numL i.natAbs).length ≤ 10 := TL.numL_len (by decide) (show i.natAbs < 10 ^ 10 by omega)
    split
    · rw [List.length_cons, szD]; omega
    · rw [szD]; omega
  | str x =>
    show (TL.tl x).length + 1 ≤ 12 * szD (.str x)
    rw [szD, TL.len_tl]; omega
  | bool b => exact absurd (show false = true from hd) Bool.false_ne_true
  | list l => exact absurd (show false = true from hd) Bool.false_ne_true
  | tuple l => exact absurd (show false = true from hd) Bool.false_ne_true
  | dict l => exact absurd (show false = true from hd) Bool.false_ne_true
theorem leaf_sign {d : PyData} (hd : leafW d = true) : ∀ c ∈ TL.tl (leafT d), c ≤ 122 := by
  cases d with
  | none =>
    intro c hc
    rw [show TL.tl (leafT .none) = [45] by decide +kernel] at hc
    rw [List.mem_singleton.mp hc]; decide
  | int i =>
    intro c hc
    rw [tl_int] at hc
    have dg := TL.numL_digits i.natAbs
    split at hc
    · rcases List.mem_cons.mp hc with z | z
      · omega
      · have := dg c z; omega
    · have := dg c hc; omega
  | str x => exact fun c hc => ((isWd_let hd).1 c hc).2
  | bool b => exact absurd (show false = true from hd) Bool.false_ne_true
  | list l => exact absurd (show false = true from hd) Bool.false_ne_true
  | tuple l => exact absurd (show false = true from hd) Bool.false_ne_true
  | dict l => exact absurd (show false = true from hd) Bool.false_ne_true
theorem tk_sum : ∀ (n : Nat) {d : PyData}, isW n d = true → sumL (tkL n d) ≤ 12 * szD d ∧ ∀ t ∈ tkL n d, ∀ c ∈ t, c ≤ 122 := by
  intro n
  induction n with
  | zero =>
    intro d hd
    have nd : ∀ ds, d ≠ .tuple ds := fun ds z => by rw [z] at hd; exact absurd hd (by simp [isW])
    rw [isW_leaf nd] at hd
    rw [tkL_leaf nd]
    refine ⟨by simp only [sumL]; have := leaf_len hd; omega, fun t ht => ?_⟩
    rw [List.mem_singleton.mp ht]
    exact leaf_sign hd
  | succ n ih =>
    intro d hd
    rcases @notTup d with ⟨ds, rfl⟩ | nd
    · obtain ⟨m, em, _, kd⟩ := isW_tup hd
      cases em
      have key : ∀ ds : List PyData, (∀ d ∈ ds, isW n d = true) → sumL (ds.map (tkL n)).flatten ≤ 12 * szL ds ∧ ∀ t ∈ (ds.map (tkL n)).flatten, ∀ c ∈ t, c ≤ 122 := by
        intro ds
        induction ds with
        | nil => exact fun _ => ⟨by simp [sumL], fun t ht => by simp at ht⟩
        | cons e es ihl =>
          intro h
          obtain ⟨h1, h2⟩ := ih (h e (List.mem_cons_self ..))
          obtain ⟨h3, h4⟩ := ihl fun z hz => h z (List.mem_cons_of_mem _ hz)
          rw [List.map_cons, List.flatten_cons]
          refine ⟨?_, fun t ht => ?_⟩
          · rw [sumL_app, szL]; omega
          · rcases List.mem_append.mp ht with z | z
            · exact h2 t z
            · exact h4 t z
      obtain ⟨h1, h2⟩ := key ds kd
      rw [tkL]
      refine ⟨?_, fun t ht => ?_⟩
      · rw [sumL, sumL_app, szD]
        simp only [sumL, List.length_cons, List.length_nil]
        omega
      · rcases List.mem_cons.mp ht with z | z
        · rw [z]; intro c hc; rw [List.mem_singleton.mp hc]; decide
        · rcases List.mem_append.mp z with z | z
          · exact h2 t z
          · rw [List.mem_singleton.mp z]; intro c hc; rw [List.mem_singleton.mp hc]; decide
    · rw [isW_leaf nd] at hd
      rw [tkL_leaf nd]
      refine ⟨by simp only [sumL]; have := leaf_len hd; omega, fun t ht => ?_⟩
      rw [List.mem_singleton.mp ht]
      exact leaf_sign hd
theorem shW_len {n : Nat} {d : PyData} (hd : isW n d = true) : (shW n d).length + 1 ≤ 12 * szD d := by
  rw [TL.len_tl, tl_shW, joinL_len (tkL_ne n d)]
  exact (tk_sum n hd).1
theorem shW_sign {n : Nat} {d : PyData} (hd : isW n d = true) : ∀ c ∈ TL.tl (shW n d), c ≤ 122 := by
  intro c hc
  rw [tl_shW] at hc
  rcases joinL_mem hc with z | ⟨t, ht, h⟩
  · omega
  · exact (tk_sum n hd).2 t ht c h
theorem shW_repr {n : Nat} {d : PyData} (hd : isW n d = true) (hs : szD d ≤ 40000) : (reprText (shW n d)).length ≤ sizeLine := by
  have h1 := StrLaws.reprText_len (shW n d) fun c hc => Nat.lt_of_le_of_lt (shW_sign hd c hc) (by decide)
  have h2 := shW_len hd
  rw [sizeLine_eq]
  omega
/-! ### worths that are alike -/
theorem eqv_w : ∀ (n : Nat) {d e : PyData}, isW n d = true → isW n e = true → (PyData.eqv d e = true ↔ d = e) := by
  have leaf : ∀ {d e : PyData}, leafW d = true → leafW e = true → (PyData.eqv d e = true ↔ d = e) := by
    intro d e hd he
    cases d <;> cases e <;> first | exact absurd (show false = true from hd) Bool.false_ne_true | exact absurd (show false = true from he) Bool.false_ne_true | simp [PyData.eqv]
  have mixed : ∀ {d : PyData} {ds : List PyData}, leafW d = true → ¬ (PyData.eqv d (.tuple ds) = true) ∧ ¬ (PyData.eqv (.tuple ds) d = true) := by
    intro d ds hd
    cases d <;> first | exact absurd (show false = true from hd) Bool.false_ne_true | simp [PyData.eqv]
  intro n
  induction n with
  | zero =>
    intro d e hd he
    have nd : ∀ ds, d ≠ .tuple ds := fun ds z => by rw [z] at hd; exact absurd hd (by simp [isW])
    have ne : ∀ ds, e ≠ .tuple ds := fun ds z => by rw [z] at he; exact absurd he (by simp [isW])
    rw [isW_leaf nd] at hd
    rw [isW_leaf ne] at he
    exact leaf hd he
  | succ n ih =>
    have lists : ∀ ds es : List PyData, (∀ d ∈ ds, isW n d = true) → (∀ e ∈ es, isW n e = true) → (PyData.eqvAll ds es = true ↔ ds = es) := by
      intro ds
      induction ds with
      | nil => intro es _ _; cases es <;> simp [PyData.eqvAll]
      | cons d ds ihl =>
        intro es hd he
        cases es with
        | nil => simp [PyData.eqvAll]
        | cons e es =>
          rw [PyData.eqvAll, Bool.and_eq_true, ih (hd d (List.mem_cons_self ..)) (he e (List.mem_cons_self ..)), ihl es (fun z hz => hd z (List.mem_cons_of_mem _ hz)) (fun z hz => he z (List.mem_cons_of_mem _ hz))]
          constructor
          · rintro ⟨rfl, rfl⟩; rfl
          · intro h; exact ⟨(List.cons.inj h).1, (List.cons.inj h).2⟩
    intro d e hd he
    rcases @notTup d with ⟨ds, rfl⟩ | nd
    · obtain ⟨m, em, _, kd⟩ := isW_tup hd
      cases em
      rcases @notTup e with ⟨es, rfl⟩ | ne
      · obtain ⟨m2, em2, _, ke⟩ := isW_tup he
        cases em2
        rw [PyData.eqv, lists ds es kd ke]
        constructor
        · rintro rfl; rfl
        · intro h; exact PyData.tuple.inj h
      · rw [isW_leaf ne] at he
        exact ⟨fun z => ((mixed he).2 z).elim, fun z => (ne ds z.symm).elim⟩
    · rcases @notTup e with ⟨es, rfl⟩ | ne
      · rw [isW_leaf nd] at hd
        exact ⟨fun z => ((mixed hd).1 z).elim, fun z => (nd es z).elim⟩
      · rw [isW_leaf nd] at hd
        rw [isW_leaf ne] at he
        exact leaf hd he
theorem lay_w : ∀ (n : Nat) {d : PyData}, isW n d = true → d.canLay0 = true ∧ d.depth ≤ n := by
  have leaf : ∀ {d : PyData}, leafW d = true → d.canLay0 = true ∧ d.depth = 0 := by
    intro d hd
    cases d with
    | none => exact ⟨rfl, by simp [PyData.depth]⟩
    | int i => exact ⟨rfl, by simp [PyData.depth]⟩
    | str x =>
      refine ⟨?_, by simp [PyData.depth]⟩
      show PyData.strOk x = true
      unfold PyData.strOk
      rw [Array.all_eq_true']
      intro c hc
      have := (isWd_let hd).1 c (Array.mem_toList_iff.mpr hc)
      exact decide_eq_true (by omega)
    | bool b => exact absurd (show false = true from hd) Bool.false_ne_true
    | list l => exact absurd (show false = true from hd) Bool.false_ne_true
    | tuple l => exact absurd (show false = true from hd) Bool.false_ne_true
    | dict l => exact absurd (show false = true from hd) Bool.false_ne_true
  intro n
  induction n with
  | zero =>
    intro d hd
    have nd : ∀ ds, d ≠ .tuple ds := fun ds z => by rw [z] at hd; exact absurd hd (by simp [isW])
    rw [isW_leaf nd] at hd
    exact ⟨(leaf hd).1, Nat.le_of_eq (leaf hd).2⟩
  | succ n ih =>
    intro d hd
    rcases @notTup d with ⟨ds, rfl⟩ | nd
    · obtain ⟨m, em, _, kd⟩ := isW_tup hd
      cases em
      have key : ∀ ds : List PyData, (∀ d ∈ ds, isW n d = true) → PyData.canLayAll0 ds = true ∧ PyData.depthAll ds ≤ n := by
        intro ds
        induction ds with
        | nil => exact fun _ => ⟨rfl, by simp [PyData.depthAll]⟩
        | cons e es ihl =>
          intro h
          obtain ⟨h1, h2⟩ := ih (h e (List.mem_cons_self ..))
          obtain ⟨h3, h4⟩ := ihl fun z hz => h z (List.mem_cons_of_mem _ hz)
          refine ⟨by rw [PyData.canLayAll0, h1, h3]; rfl, ?_⟩
          rw [PyData.depthAll]; omega
      obtain ⟨h1, h2⟩ := key ds kd
      exact ⟨by rw [PyData.canLay0]; exact h1, by rw [PyData.depth]; omega⟩
    · rw [isW_leaf nd] at hd
      exact ⟨(leaf hd).1, by rw [(leaf hd).2]; omega⟩
theorem shaped_w {n : Nat} {d : PyData} (h : isW n d = true) (hn : n ≤ 60) : SeqAt.shaped d = true := by
  unfold SeqAt.shaped
  rw [(lay_w n h).1, Bool.true_and]
  exact decide_eq_true (by have := (lay_w n h).2; omega)
theorem dp_w {K : PySem.W.Frag} {H : Hp} : ∀ (n : Nat) {m : Nat} {v : V} {d : PyData}, isW n d = true → Rep H m v d → Dp K H v d := by
  have leaf : ∀ {T : V → List PyData → Prop} {v : V} {d : PyData}, leafW d = true → base H T v d → Dp K H v d := by
    intro T v d hd h
    cases d with
    | none => rw [show v = .non from h]; exact .non
    | int i => rw [show v = .int i from h]; exact .int i
    | str x => rw [show v = .str x from h]; exact .str x
    | bool b => exact absurd (show false = true from hd) Bool.false_ne_true
    | list l => exact absurd (show false = true from hd) Bool.false_ne_true
    | tuple l => exact absurd (show false = true from hd) Bool.false_ne_true
    | dict l => exact absurd (show false = true from hd) Bool.false_ne_true
  have leafR : ∀ {m : Nat} {v : V} {d : PyData}, leafW d = true → Rep H m v d → Dp K H v d := by
    intro m v d hd h
    cases m with
    | zero => exact leaf hd h
    | succ m => exact leaf hd h
  intro n
  induction n with
  | zero =>
    intro m v d hd h
    have nd : ∀ ds, d ≠ .tuple ds := fun ds z => by rw [z] at hd; exact absurd hd (by simp [isW])
    rw [isW_leaf nd] at hd
    exact leafR hd h
  | succ n ih =>
    intro m v d hd h
    rcases @notTup d with ⟨ds, rfl⟩ | nd
    · obtain ⟨k, ek, h20, kd⟩ := isW_tup hd
      cases ek
      cases m with
      | zero => exact (show False from h).elim
      | succ m =>
        obtain ⟨a, xs, rfl, ha, hp⟩ := (show ∃ a xs, v = .ref a ∧ H a = some (.tup xs) ∧ Paired (Rep H m) xs ds from h)
        refine .tup (SqT.of ha) ?_
        clear ha h hd h20
        induction hp with
        | nil => exact .nil
        | cons h1 h2 ihp => exact .cons (ih (kd _ (List.mem_cons_self ..)) h1) (ihp fun z hz => kd z (List.mem_cons_of_mem _ hz))
    · rw [isW_leaf nd] at hd
      exact leafR hd h
end My

set_option Elab.async false
set_option linter.all false
set_option maxRecDepth 100000
set_option maxHeartbeats 4000000
namespace My
open PySem PySem.W
open PySem.Sem (wp)
section
variable {prog : Program} {w : World} {z TI TO i1 i2 : Addr} {fp1 fp2 : List Addr} {n1 n2 : Nat} {P1 P2 : Nat → Value → Prop} {St1 St2 : Nat → Heap → Prop}
/-- one turn of a zip whose first pair is still held by somebody -/
theorem held_item {A : Around} {E : Value → Shared → Prop} {s : Shared} {i : Nat} {T : Addr} {f : Bool} {oT : Obj} {Q : Option Value → Shared → Prop} (S : ZipSep2 z TI TO i1 i2 fp1 fp2) (D1 : ∀ A : Around, A.handled = none → Draws prog w A i1 fp1 n1 P1 St1) (D2 : ∀ A : Around, A.handled = none → Draws prog w A i2 fp2 n2 P2 St2) (hA : A.handled = none)
    (hz : IsZipHeld s.heap z TI TO T f) (hT : s.heap.get? T = some oT) (hTI : IsTupOf2 s.heap TI (.ref i1) (.ref i2)) (st1 : St1 i s.heap) (st2 : St2 i s.heap) (hlt1 : i < n1) (hlt2 : i < n2)
    (hQ : ∀ x1 x2 h' tk, P1 i x1 → P2 i x2 → IsZipHeld h' z TI TO T true → St1 (i + 1) h' → St2 (i + 1) h' → IsTupOf2 h' s.heap.objs.size x1 x2 → h'.objs.size = s.heap.objs.size + 1 →
      (∀ c o, c ≠ z → c ≠ i1 → c ≠ i2 → s.heap.get? c = some o → h'.get? c = some o) → Q (some (.ref s.heap.objs.size)) { s with heap := h', toks := tk }) :
    wpAny (model prog w) A (pyNext (.ref z)) Q E s := by
  have hTy : s.TypeIs (.ref z) "zip" := ⟨_, hz, rfl⟩
  unfold pyNext
  refine wpAny_bind (wpAny_attempt (wpAny_callSpecial?_slot (name := Str.ofString "__next__") hTy F.slot_zip_next (wpAny_call_entry F.slot_zip_next hTy F.entry_zip_next ?_ (F.args_zip_next_1 _))))
  have d1 := D1 A.in1 hA
  have d2 := D2 A.in1 hA
  obtain ⟨hp, g, d, tk0, os⟩ := s
  show wpAny _ _ (field (.ref z) 2 >>= _) _ _ _
  refine wpAny_bind (wpAny_field hz rfl (x := .bool false) rfl ?_)
  show wpAny _ _ (field (.ref z) 3 >>= _) _ _ _
  refine wpAny_bind (wpAny_field hz rfl (x := .ref TI) rfl (wpAny_bind (wpAny_seqItems hTI rfl ?_)))
  show wpAny _ _ (Builtin.SmallTypes.ownedTupleIsFree (.ref z) >>= _) _ _ _
  refine wpAny_bind (wpAny_tupleHeld_zip (f := f) hz hT fun g0 hz0 hs0 => ?_)
  replace hs0 : Heap.SameBut z hp g0 := hs0
  simp only [Bool.false_eq_true, if_false]
  refine wpAny_bind ?_
  rw [← Array.forIn_toList]
  simp only [List.forIn_cons, List.forIn_nil]
  refine wpAny_bind (wpAny_bind (wpAny_holding ?_))
  show wpAny _ _ (Builtin.SmallTypes.nextOf (.ref i1) >>= _) _ _ ⟨g0, g, d, tk0, os⟩
  refine wpAny_bind (d1.item i ⟨g0, g, d, tk0, os⟩ _ _ hlt1 (d1.over st1 hs0 S.zf1) fun x1 p1 tk1 hx1 sn1 hp1 => wpAny_pure (wpAny_pure ?_))
  replace hp1 : Heap.SameBut i1 g0 p1 := hp1
  refine wpAny_bind (wpAny_bind (wpAny_holding ?_))
  show wpAny _ _ (Builtin.SmallTypes.nextOf (.ref i2) >>= _) _ _ ⟨p1, g, d, tk1, os⟩
  refine wpAny_bind (d2.item i ⟨p1, g, d, tk1, os⟩ _ _ hlt2 (d2.over (d2.over st2 hs0 S.zf2) hp1 S.sep1_2) fun x2 p2 tk2 hx2 sn2 hp2 => wpAny_pure (wpAny_pure (wpAny_pure ?_)))
  replace hp2 : Heap.SameBut i2 p1 p2 := hp2
  show wpAny _ _ (newTuple [x1, x2] >>= _) _ _ ⟨p2, g, d, tk2, os⟩
  refine wpAny_bind (wpAny_newTuple (wpAny_pure ⟨_, rfl, wpAny_pure ?_⟩))
  have hsz : p2.objs.size = hp.objs.size := by rw [hp2.1, hp1.1, hs0.1]
  show Q (some (.ref p2.objs.size)) ⟨p2.push { cls := .type "tuple", data := .seq #[x1, x2] }, g, d, tk2, os⟩
  have up : ∀ c o, p2.get? c = some o → (p2.push { cls := .type "tuple", data := .seq #[x1, x2] }).get? c = some o := fun c o e => Heap.get?_push_of_some _ e
  have hpair : IsTupOf2 (p2.push { cls := .type "tuple", data := .seq #[x1, x2] }) p2.objs.size x1 x2 := Heap.get?_push_size _ rfl
  have hnew : (p2.push { cls := .type "tuple", data := .seq #[x1, x2] }).objs.size = p2.objs.size + 1 := Heap.size_push ..
  have k1 := hQ x1 x2 (p2.push { cls := .type "tuple", data := .seq #[x1, x2] }) tk2 hx1 hx2 (up _ _ (hp2.extBut _ _ S.zi2 (hp1.extBut _ _ S.zi1 hz0)))
    (d1.frame _ _ _ (d1.over sn1 hp2 S.sep2_1) fun b _ o e => up b o e) (d2.frame _ _ _ sn2 fun b _ o e => up b o e)
  rw [hsz] at hpair hnew ⊢
  exact k1 hpair hnew fun c o c1 c2 c3 e => up c o (hp2.extBut _ _ c3 (hp1.extBut _ _ c2 (hs0.extBut _ _ c1 e)))
theorem held_end {A : Around} {E : Value → Shared → Prop} {s : Shared} {i : Nat} {T : Addr} {f : Bool} {oT : Obj} {Q : Option Value → Shared → Prop} (S : ZipSep2 z TI TO i1 i2 fp1 fp2) (D1 : ∀ A : Around, A.handled = none → Draws prog w A i1 fp1 n1 P1 St1) (D2 : ∀ A : Around, A.handled = none → Draws prog w A i2 fp2 n2 P2 St2) (hA : A.handled = none)
    (hz : IsZipHeld s.heap z TI TO T f) (hT : s.heap.get? T = some oT) (hTI : IsTupOf2 s.heap TI (.ref i1) (.ref i2)) (st1 : St1 i s.heap) (st2 : St2 i s.heap) (hle1 : i ≤ n1) (hle2 : i ≤ n2) (hend : i = n1 ∨ i = n2)
    (hQ : ∀ h' tk, (∀ c o, c ≠ z → c ≠ i1 → c ≠ i2 → s.heap.get? c = some o → h'.get? c = some o) → Q none { s with heap := h', toks := tk }) :
    wpAny (model prog w) A (pyNext (.ref z)) Q E s := by
  have hTy : s.TypeIs (.ref z) "zip" := ⟨_, hz, rfl⟩
  have d1 := D1 A.in1 hA
  have d2 := D2 A.in1 hA
  unfold pyNext
  obtain ⟨hp, g, d, tk0, os⟩ := s
  have stop : ∀ (q : Heap) (tk : Tok) (e : Addr), (∀ c o, c ≠ z → c ≠ i1 → c ≠ i2 → hp.get? c = some o → q.get? c = some o) → (∃ o, q.get? e = some o ∧ o.cls = .type "StopIteration") →
      wpAny (model prog w) A (isInstance (.ref e) (.type "StopIteration") >>= fun b => if b = true then pure none else throw (.ref e)) Q E ⟨q, g, d, tk, os⟩ := by
    rintro q tk e hk ⟨o, ho, hc⟩
    exact wpAny_bind (wpAny_isInstance (T := "StopIteration") (b := true) ⟨o, ho, hc⟩ isSubtype_stop (wpAny_pure (hQ q tk hk)))
  refine wpAny_bind (wpAny_attempt (wpAny_callSpecial?_slot (name := Str.ofString "__next__") hTy F.slot_zip_next (wpAny_call_entry F.slot_zip_next hTy F.entry_zip_next ?_ (F.args_zip_next_1 _))))
  show wpAny _ _ (field (.ref z) 2 >>= _) _ _ _
  refine wpAny_bind (wpAny_field hz rfl (x := .bool false) rfl ?_)
  show wpAny _ _ (field (.ref z) 3 >>= _) _ _ _
  refine wpAny_bind (wpAny_field hz rfl (x := .ref TI) rfl (wpAny_bind (wpAny_seqItems hTI rfl ?_)))
  show wpAny _ _ (Builtin.SmallTypes.ownedTupleIsFree (.ref z) >>= _) _ _ _
  refine wpAny_bind (wpAny_tupleHeld_zip (f := f) hz hT fun g0 hz0 hs0 => ?_)
  replace hs0 : Heap.SameBut z hp g0 := hs0
  simp only [Bool.false_eq_true, if_false]
  refine wpAny_bind ?_
  rw [← Array.forIn_toList]
  simp only [List.forIn_cons, List.forIn_nil]
  by_cases h1 : i < n1
  · refine wpAny_bind (wpAny_bind (wpAny_holding ?_))
    show wpAny _ _ (Builtin.SmallTypes.nextOf (.ref i1) >>= _) _ _ ⟨g0, g, d, tk0, os⟩
    refine wpAny_bind (d1.item i ⟨g0, g, d, tk0, os⟩ _ _ h1 (d1.over st1 hs0 S.zf1) fun x1 p1 tk1 hx1 sn1 hp1 => wpAny_pure (wpAny_pure ?_))
    replace hp1 : Heap.SameBut i1 g0 p1 := hp1
    have h2 : i = n2 := by omega
    refine wpAny_bind (wpAny_bind (wpAny_holding ?_))
    show wpAny _ _ (Builtin.SmallTypes.nextOf (.ref i2) >>= _) _ _ ⟨p1, g, d, tk1, os⟩
    refine wpAny_bind (d2.done ⟨p1, g, d, tk1, os⟩ _ _ (by rw [← h2]; exact d2.over (d2.over st2 hs0 S.zf2) hp1 S.sep1_2) fun q e hq he => ?_)
    exact stop q tk1 e (fun c o c1 c2 c3 x => hq _ _ c3 (hp1.extBut _ _ c2 (hs0.extBut _ _ c1 x))) he
  · have h2 : i = n1 := by omega
    refine wpAny_bind (wpAny_bind (wpAny_holding ?_))
    show wpAny _ _ (Builtin.SmallTypes.nextOf (.ref i1) >>= _) _ _ ⟨g0, g, d, tk0, os⟩
    refine wpAny_bind (d1.done ⟨g0, g, d, tk0, os⟩ _ _ (by rw [← h2]; exact d1.over st1 hs0 S.zf1) fun q e hq he => ?_)
    exact stop q tk0 e (fun c o c1 c2 c3 x => hq _ _ c2 (hs0.extBut _ _ c1 x)) he
theorem big {a b N : Nat} (h1 : a < N) (h2 : N ≤ b) : b ≠ a := Nat.ne_of_gt (Nat.lt_of_lt_of_le h1 h2)
/-- how the zip itself stands: no pair is out, or the first one is still held -/
def ZAt (z TI TO N0 : Nat) (i : Nat) (h : Heap) : Prop := (i = 0 ∧ IsZip h z TI TO .none ∧ ∃ a b, IsTupOf2 h TO a b) ∨ (∃ T f oT, N0 ≤ T ∧ h.get? T = some oT ∧ IsZipHeld h z TI TO T f)
def Made (P1 P2 : Nat → Value → Prop) (N0 : Nat) (h : Heap) (acc : Array Value) : Prop := (∀ j v, acc[j]? = some v → ∃ b x1 x2, v = .ref b ∧ N0 ≤ b ∧ P1 j x1 ∧ P2 j x2 ∧ IsTupOf2 h b x1 x2) ∧ ∀ (j k : Nat) (b c : Addr), j < k → acc[j]? = some (Value.ref b) → acc[k]? = some (Value.ref c) → b < c
theorem ext_zip {A : Around} {R : Result → Shared → Prop} (S : ZipSep2 z TI TO i1 i2 fp1 fp2) (D1 : ∀ A : Around, A.handled = none → Draws prog w A i1 fp1 n1 P1 St1) (D2 : ∀ A : Around, A.handled = none → Draws prog w A i2 fp2 n2 P2 St2) (hA : A.handled = none) (hn : min n1 n2 ≤ sizeLine)
    {L N0 : Addr} (Lz : L ≠ z) (LTI : L ≠ TI) (LTO : L ≠ TO) (L1 : L ∉ fp1) (L2 : L ∉ fp2) (zN : z < N0) (TIN : TI < N0) (TON : TO < N0) (i1N : i1 < N0) (i2N : i2 < N0) (LN : L < N0) (res : Value) :
    ∀ (k i : Nat) (s : Shared) (acc : Array Value) (c : Nat), min n1 n2 - i = k → i ≤ min n1 n2 → N0 ≤ s.heap.objs.size → ZAt z TI TO N0 i s.heap → IsTupOf2 s.heap TI (.ref i1) (.ref i2) → St1 i s.heap → St2 i s.heap →
    s.heap.get? L = some { cls := .type "list", dict := none, data := .seq acc c, slots := #[] } → acc.size = i → Made P1 P2 N0 s.heap acc →
    (∀ h' tk acc' c', (∀ b o, b < N0 → b ≠ z → b ≠ TO → b ≠ i1 → b ≠ i2 → b ≠ L → s.heap.get? b = some o → h'.get? b = some o) → h'.get? L = some { cls := .type "list", dict := none, data := .seq acc' c', slots := #[] } →
      acc'.size = min n1 n2 → Made P1 P2 N0 h' acc' → R (.ok (.ret res)) { s with heap := h', toks := tk }) →
    codeAny (model prog w) A (.builtin "list.extend.loop" ⟨[.ref L, .ref z, res], []⟩) R s := by
  have Li1 : L ≠ i1 := fun e => L1 (e ▸ S.mem1)
  have Li2 : L ≠ i2 := fun e => L2 (e ▸ S.mem2)
  intro k
  induction k with
  | zero =>
    intro i s acc c hk hi hN hZ hTI st1 st2 hL hsz hM hR
    have hin : i = min n1 n2 := by omega
    refine codeAny_builtin F.entry_extend_loop ?_
    rw [Around.under_plainId F.plain_extend_loop _]
    show wpAny _ A.in1 (pyNext (.ref z) >>= _) _ _ s
    have go : ∀ h' tk, (∀ c o, c ≠ z → c ≠ TO → c ≠ i1 → c ≠ i2 → s.heap.get? c = some o → h'.get? c = some o) → R (.ok (.ret res)) { s with heap := h', toks := tk } := fun h' tk hk' => by
      refine hR h' tk acc c (fun b o _ b1 b2 b3 b4 _ e => hk' b o b1 b2 b3 b4 e) (hk' _ _ Lz LTO Li1 Li2 hL) (by omega) ⟨fun j v e => ?_, hM.2⟩
      obtain ⟨b, x1, x2, ev, hb, p1, p2, ht⟩ := hM.1 j v e
      exact ⟨b, x1, x2, ev, hb, p1, p2, hk' _ _ (big zN hb) (big TON hb) (big i1N hb) (big i2N hb) ht⟩
    rcases hZ with ⟨e0, hz, a, b, hTO⟩ | ⟨T, f, oT, hTN, hT, hz⟩
    · refine wpAny_bind (wpAny_pyNext_zipD2_end S (D1 A.in1.in1 hA) (D2 A.in1.in1 hA) hz hTI hTO st1 st2 (by omega) (by omega) (by omega) fun h' tk hk' => wpAny_pure (go h' tk hk'))
    · refine wpAny_bind (held_end (A := A.in1) S D1 D2 hA hz hT hTI st1 st2 (by omega) (by omega) (by omega) fun h' tk hk' => wpAny_pure (go h' tk fun c o c1 _ c3 c4 e => hk' c o c1 c3 c4 e))
  | succ k ih =>
    intro i s acc c hk hi hN hZ hTI st1 st2 hL hsz hM hR
    have hlt : i < min n1 n2 := by omega
    refine codeAny_builtin F.entry_extend_loop ?_
    rw [Around.under_plainId F.plain_extend_loop _]
    show wpAny _ A.in1 (pyNext (.ref z) >>= _) _ _ s
    have go : ∀ x1 x2 h' tk, P1 i x1 → P2 i x2 → (∃ T f oT, N0 ≤ T ∧ h'.get? T = some oT ∧ IsZipHeld h' z TI TO T f) → St1 (i + 1) h' → St2 (i + 1) h' → IsTupOf2 h' s.heap.objs.size x1 x2 → h'.objs.size = s.heap.objs.size + 1 →
        (∀ c o, c ≠ z → c ≠ TO → c ≠ i1 → c ≠ i2 → s.heap.get? c = some o → h'.get? c = some o) →
        wpAny (model prog w) A.in1 (updateSeq L (·.push (.ref s.heap.objs.size)) >>= fun _ => again (.builtin "list.extend.loop" ⟨[.ref L, .ref z, res], []⟩)) (fun fin s' => match fin with | .done f => R (.ok f) s' | .again c' => c'.quiet = true ∧ codeAny (model prog w) A c' R s') (fun e s' => R (.error e) s') { s with heap := h', toks := tk } := by
      intro x1 x2 h' tk q1 q2 hz' sn1 sn2 hpair hs' hk'
      have hL' := hk' _ _ Lz LTO Li1 Li2 hL
      refine wpAny_bind (wpAny_updateSeq (s := { s with heap := h', toks := tk }) hL' rfl (wpAny_pure ⟨plainId_quiet F.plain_extend_loop _, ?_⟩) (by rw [hsz]; omega) (by show (acc.push _).size ≤ sizeLine + 1; rw [Array.size_push, hsz]; omega))
      have up : ∀ b o, b ≠ L → h'.get? b = some o → (h'.update L (Obj.mapSeq (·.push (.ref s.heap.objs.size)))).get? b = some o := fun b o hb e => (Heap.get?_update_other _ _ (Ne.symm hb)).trans e
      have hTI' := up _ _ (Ne.symm LTI) (hk' _ _ S.TIz S.TITO S.TIi1 S.TIi2 hTI)
      refine ih (i + 1) { s with heap := h'.update L (Obj.mapSeq (·.push (.ref s.heap.objs.size))), toks := tk } (acc.push (.ref s.heap.objs.size)) _ (by omega) hlt ?_ (.inr ?_) hTI' ?_ ?_ (Heap.get?_update_self _ hL' rfl) (by rw [Array.size_push, hsz]) ?_ ?_
      · show N0 ≤ (h'.update L _).objs.size
        rw [Heap.size_update, hs']; exact Nat.le_succ_of_le hN
      · obtain ⟨T, f, oT, hTN, hT, hz⟩ := hz'
        exact ⟨T, f, oT, hTN, up _ _ (big LN hTN) hT, up _ _ (Ne.symm Lz) hz⟩
      · exact (D1 A.in1 hA).frame _ _ _ sn1 fun b hb o e => up b o (fun q => L1 (q ▸ hb)) e
      · exact (D2 A.in1 hA).frame _ _ _ sn2 fun b hb o e => up b o (fun q => L2 (q ▸ hb)) e
      · refine ⟨fun j v e => ?_, fun j k b d hjk e1 e2 => ?_⟩
        rotate_left
        · rw [Array.getElem?_push] at e1 e2
          split at e1
          · rename_i ej
            have hk2 : k < acc.size := by
              split at e2
              · rename_i ek; omega
              · exact (Array.getElem?_eq_some_iff.mp e2).1
            omega
          · split at e2
            · rename_i ek
              cases e2
              obtain ⟨b', x1', x2', ev, hb, p1, p2, ht⟩ := hM.1 j _ e1
              cases ev
              exact Heap.lt_size ht
            · exact hM.2 j k b d hjk e1 e2
        rw [Array.getElem?_push] at e
        split at e
        · rename_i ej
          cases e
          rw [hsz] at ej
          subst ej
          exact ⟨_, x1, x2, rfl, hN, q1, q2, up _ _ (big LN hN) hpair⟩
        · obtain ⟨b, y1, y2, ev, hb, p1, p2, ht⟩ := hM.1 j v e
          exact ⟨b, y1, y2, ev, hb, p1, p2, up _ _ (big LN hb) (hk' _ _ (big zN hb) (big TON hb) (big i1N hb) (big i2N hb) ht)⟩
      · intro h'' tk'' acc' c' hk'' hL'' hsz'' hM''
        exact hR h'' tk'' acc' c' (fun b o hb b1 b2 b3 b4 b5 e => hk'' b o hb b1 b2 b3 b4 b5 (up _ _ b5 (hk' _ _ b1 b2 b3 b4 e))) hL'' hsz'' hM''
    rcases hZ with ⟨e0, hz, a, b, hTO⟩ | ⟨T, f, oT, hTN, hT, hz⟩
    · exact wpAny_bind (wpAny_pyNext_zipD2_item S (D1 A.in1.in1 hA) (D2 A.in1.in1 hA) hz hTI hTO st1 st2 (by omega) (by omega) fun x1 x2 h' tk q1 q2 hz' _ sn1 sn2 hp hs' hk' => go x1 x2 h' tk q1 q2 ⟨_, false, _, hN, hp, hz'⟩ sn1 sn2 hp hs' hk')
    · exact wpAny_bind (held_item (A := A.in1) S D1 D2 hA hz hT hTI st1 st2 (by omega) (by omega) fun x1 x2 h' tk q1 q2 hz' sn1 sn2 hp hs' hk' => go x1 x2 h' tk q1 q2 ⟨T, true, oT, hTN, hk' _ _ (big zN hTN) (big i1N hTN) (big i2N hTN) hT, hz'⟩ sn1 sn2 hp hs' fun c o c1 _ c3 c4 e => hk' c o c1 c3 c4 e)
end
end My

set_option Elab.async false
set_option linter.all false
set_option maxRecDepth 100000
set_option maxHeartbeats 4000000
namespace My
open PySem PySem.W
open PySem.Sem (wp)
theorem zip_no_len : typeLookup (.type "zip") "__len__" = pure none := by rw [typeLookup_type, builtinLookup_eq_fast]; kernel_rfl
theorem zip_no_hint : typeLookup (.type "zip") "__length_hint__" = pure none := by rw [typeLookup_type, builtinLookup_eq_fast]; kernel_rfl
section
variable {prog : Program} {w : World} {z TI TO i1 i2 : Addr} {fp1 fp2 : List Addr} {n1 n2 : Nat} {P1 P2 : Nat → Value → Prop} {St1 St2 : Nat → Heap → Prop}
/-- list(z) of a zip of which nothing was drawn yet -/
theorem list_zip {A : Around} {E : Value → Shared → Prop} {s : Shared} {Q : Value → Shared → Prop} (S : ZipSep2 z TI TO i1 i2 fp1 fp2) (D1 : ∀ A : Around, A.handled = none → Draws prog w A i1 fp1 n1 P1 St1) (D2 : ∀ A : Around, A.handled = none → Draws prog w A i2 fp2 n2 P2 St2) (hA : A.handled = none) (hn : min n1 n2 ≤ sizeLine)
    {a b : Value} (hz : IsZip s.heap z TI TO .none) (hTI : IsTupOf2 s.heap TI (.ref i1) (.ref i2)) (hTO : IsTupOf2 s.heap TO a b) (st1 : St1 0 s.heap) (st2 : St2 0 s.heap) (f1 : ∀ c ∈ fp1, c < s.heap.objs.size) (f2 : ∀ c ∈ fp2, c < s.heap.objs.size)
    (hQ : ∀ h' tk acc c', (∀ b o, b < s.heap.objs.size → b ≠ z → b ≠ TO → b ≠ i1 → b ≠ i2 → s.heap.get? b = some o → h'.get? b = some o) → h'.get? s.heap.objs.size = some { cls := .type "list", dict := none, data := .seq acc c', slots := #[] } →
      acc.size = min n1 n2 → Made P1 P2 (s.heap.objs.size + 1) h' acc → Q (.ref s.heap.objs.size) { s with heap := h', toks := tk }) :
    wpAny (model prog w) A (call (.type "list") [.ref z]) Q E s := by
  refine callType_codes (Q₁ := fun obj s₁ => obj = .ref s.heap.objs.size ∧ s₁ = { s with heap := s.heap.push { cls := .type "list", data := .seq #[] } }) PySem.F.called_list (PySem.F.typeCall_list_1 _) PySem.F.entry_list_init
    (code_list_new _ ⟨rfl, rfl⟩) fun obj s₁ h₁ => ?_
  obtain ⟨rfl, rfl⟩ := h₁
  have zN : z < s.heap.objs.size := Heap.lt_size hz
  have TIN : TI < s.heap.objs.size := Heap.lt_size hTI
  have TON : TO < s.heap.objs.size := Heap.lt_size hTO
  have i1N := f1 _ S.mem1
  have i2N := f2 _ S.mem2
  generalize hL : s.heap.objs.size = L at *
  have hS : (s.heap.push { cls := .type "list", data := .seq #[] }).get? L = some { cls := .type "list", data := .seq #[] } := by rw [← hL]; exact Heap.get?_push_size _ rfl
  have hS1 : (s.heap.push { cls := .type "list", data := .seq #[] }).objs.size = L + 1 := by rw [Heap.size_push, hL]
  refine ⟨⟨_, hS, rfl⟩, PySem.F.args_list_init_2 _ _, ?_⟩
  have key : ∀ (h : Heap) (c₁ : Nat) (tk : Tok), h.objs.size = L + 1 → (∀ b o, b ≠ L → s.heap.get? b = some o → h.get? b = some o) → h.get? L = some { cls := .type "list", data := .seq #[] c₁ } →
      codeAny (model prog w) A.in1 (.builtin "list.extend.loop" ⟨[.ref L, .ref z, .none], []⟩) (wants (fun r s₂ => r = Value.none ∧ Q (.ref L) s₂) E) { s with heap := h, toks := tk } := by
    intro h c₁ tk hsz hk hS₁
    have ne : ∀ {c : Addr}, c < L → c ≠ L := fun q => Nat.ne_of_lt q
    refine ext_zip (A := A.in1) (N0 := L + 1) S D1 D2 hA hn (Nat.ne_of_gt zN) (Nat.ne_of_gt TIN) (Nat.ne_of_gt TON) (fun q => Nat.lt_irrefl _ (f1 _ q)) (fun q => Nat.lt_irrefl _ (f2 _ q)) (Nat.lt_succ_of_lt zN) (Nat.lt_succ_of_lt TIN) (Nat.lt_succ_of_lt TON) (Nat.lt_succ_of_lt i1N) (Nat.lt_succ_of_lt i2N) (Nat.lt_succ_self L) .none
      (min n1 n2) 0 { s with heap := h, toks := tk } #[] c₁ rfl (Nat.zero_le _) (Nat.le_of_eq hsz.symm) (.inl ⟨rfl, hk _ _ (ne zN) hz, a, b, hk _ _ (ne TON) hTO⟩) (hk _ _ (ne TIN) hTI)
      ((D1 A hA).frame _ _ _ st1 fun c hc o e => hk c o (ne (f1 c hc)) e) ((D2 A hA).frame _ _ _ st2 fun c hc o e => hk c o (ne (f2 c hc)) e) hS₁ rfl ⟨fun j v e => by simp at e, fun j k b d _ e _ => by simp at e⟩ ?_
    intro h' tk' acc' c' hk' hL' hsz' hM'
    exact ⟨rfl, hQ h' tk' acc' c' (fun b o hb b1 b2 b3 b4 e => hk' b o (Nat.lt_succ_of_lt hb) b1 b2 b3 b4 (ne hb) (hk _ _ (ne hb) e)) hL' hsz' hM'⟩
  show wpAny _ _ (do let old ← Builtin.List.listItems (.ref L); Builtin.List.listUpdate (.ref L) (fun _ => #[]); letGo old.toList.reverse; Builtin.List.listExtendWith (.ref L) (.ref z) .none) _ _ _
  refine wpAny_bind ?_
  unfold Builtin.List.listItems
  refine wpAny_bind (wpAny_seqItems hS rfl (wpAny_pure ?_))
  show wpAny _ _ (updateSeq L (fun _ => #[]) >>= fun _ => letGo (#[] : Array Value).toList.reverse >>= fun _ => Builtin.List.listExtendWith (.ref L) (.ref z) .none) _ _ _
  refine wpAny_bind (wpAny_updateSeq hS rfl (wpAny_bind (wpAny_letGo ?_)))
  have u1 := Heap.get?_update_self (Obj.mapSeq (fun _ => (#[] : Array Value))) hS rfl
  have k1 : ∀ b o, b ≠ L → s.heap.get? b = some o → ((s.heap.push { cls := .type "list", data := .seq #[] }).update L (Obj.mapSeq (fun _ => (#[] : Array Value)))).get? b = some o :=
    fun b o hb e => (Heap.get?_update_other _ _ (Ne.symm hb)).trans (Heap.get?_push_of_some _ e)
  have z1 : ((s.heap.push { cls := .type "list", data := .seq #[] }).update L (Obj.mapSeq (fun _ => (#[] : Array Value)))).objs.size = L + 1 := by rw [Heap.size_update, hS1]
  generalize ((s.heap.push { cls := .type "list", data := .seq #[] }).update L (Obj.mapSeq (fun _ => (#[] : Array Value)))) = g1 at u1 k1 z1 ⊢
  have hT : ∀ (h : Heap) (tk : Tok), (∀ b o, b ≠ L → s.heap.get? b = some o → h.get? b = some o) → Shared.TypeIs { s with heap := h, toks := tk } (.ref z) "zip" := fun h tk hk => ⟨_, hk _ _ (Nat.ne_of_lt zN) hz, rfl⟩
  unfold Builtin.List.listExtendWith
  refine wpAny_bind (wpAny_typeOf (hT g1 s.toks k1) ?_)
  have e1 : Builtin.List.listSameRef (.ref L) (.ref z) = false := by simp [Builtin.List.listSameRef, Nat.ne_of_gt zN]
  have e2 : (Value.type "zip" == Value.type "list") = false := by decide
  have e3 : (Value.type "zip" == Value.type "tuple") = false := by decide
  simp only [e1, e2, e3, Bool.or_false, Bool.false_eq_true, if_false]
  refine wpAny_bind (wpAny_pyIter_zip (k1 _ _ (Nat.ne_of_lt zN) hz) ?_)
  refine wpAny_bind (wpAny_holding ?_)
  unfold Builtin.List.listLengthHint
  refine wpAny_bind (wpAny_specialOf (hT g1 s.toks k1) zip_no_len ?_)
  show wpAny _ _ (specialOf (Value.ref z) (Str.ofString "__length_hint__") >>= _) _ _ _
  refine wpAny_bind (wpAny_specialOf (hT g1 s.toks k1) zip_no_hint (wpAny_pure ?_))
  show wpAny _ _ (rule "list.extend.makes-room" >>= fun _ => Builtin.List.listTouch (.ref L) >>= fun _ => again (.builtin "list.extend.loop" ⟨[.ref L, .ref z, .none], []⟩)) _ _ _
  refine wpAny_bind (wpAny_rule (wpAny_bind ?_))
  show wpAny _ _ (updateSeq L (·.push .none) >>= fun _ => updateSeq L (·.pop)) _ _ _
  refine wpAny_bind (wpAny_updateSeq u1 rfl ?_)
  have u2 := Heap.get?_update_self (Obj.mapSeq (·.push Value.none)) u1 rfl
  refine wpAny_updateSeq (hz := by seq_fits) u2 rfl ?_
  have u3 := Heap.get?_update_self (Obj.mapSeq (·.pop)) u2 rfl
  exact wpAny_pure ⟨plainId_quiet F.plain_extend_loop _, key _ _ _ (by rw [Heap.size_update, Heap.size_update, z1]) (fun b o hb e => (Heap.get?_update_other _ _ (Ne.symm hb)).trans ((Heap.get?_update_other _ _ (Ne.symm hb)).trans (k1 b o hb e))) u3⟩
end
end My

set_option Elab.async false
set_option linter.all false
set_option maxRecDepth 100000
set_option maxHeartbeats 4000000
namespace My
open PySem PySem.W PySem.Spec PyProof.Rows L2
def putT (H : Hp) : List Addr → List V → List V → Hp
  | t :: ts, x :: xs, y :: ys => upd (putT H ts xs ys) t (.tup [x, y])
  | _, _, _ => H
theorem putT_old {H : Hp} {b : Addr} : ∀ {ts : List Addr} {xs ys : List V}, b ∉ ts → putT H ts xs ys b = H b
  | [], _, _, _ => rfl
  | _ :: _, [], _, _ => rfl
  | _ :: _, _ :: _, [], _ => rfl
  | t :: ts, x :: xs, y :: ys, h => by
    have e : b ≠ t := fun e => h (by rw [e]; exact List.mem_cons_self)
    rw [putT, upd_ne e]
    exact putT_old fun q => h (List.mem_cons_of_mem _ q)
theorem putT_inv {H : Hp} {b : Addr} {o : HO} : ∀ {ts : List Addr} {xs ys : List V}, putT H ts xs ys b = some o → H b = some o ∨ ∃ (j : Nat) (x y : V), ts[j]? = some b ∧ xs[j]? = some x ∧ ys[j]? = some y ∧ o = .tup [x, y]
  | [], _, _, h => .inl h
  | _ :: _, [], _, h => .inl h
  | _ :: _, _ :: _, [], h => .inl h
  | t :: ts, x :: xs, y :: ys, h => by
    rw [putT] at h
    by_cases e : b = t
    · subst e
      rw [upd_same] at h
      exact .inr ⟨0, x, y, rfl, rfl, rfl, (Option.some.inj h).symm⟩
    · rw [upd_ne e] at h
      rcases putT_inv h with q | ⟨j, u, v, q1, q2, q3, q4⟩
      · exact .inl q
      · exact .inr ⟨j + 1, u, v, q1, q2, q3, q4⟩
theorem putT_at {H : Hp} : ∀ {ts : List Addr} {xs ys : List V} {j : Nat} {t : Addr} {x y : V}, ts.Pairwise (· < ·) → ts[j]? = some t → xs[j]? = some x → ys[j]? = some y → putT H ts xs ys t = some (.tup [x, y])
  | [], _, _, _, _, _, _, _, h, _, _ => by simp at h
  | _ :: _, [], _, _, _, _, _, _, _, h, _ => by simp at h
  | _ :: _, _ :: _, [], _, _, _, _, _, _, _, h => by simp at h
  | t :: ts, x :: xs, y :: ys, 0, _, _, _, _, h1, h2, h3 => by
    simp only [List.getElem?_cons_zero, Option.some.injEq] at h1 h2 h3
    rw [putT, h1, h2, h3, upd_same]
  | t :: ts, x :: xs, y :: ys, j + 1, t', _, _, p, h1, h2, h3 => by
    rw [List.pairwise_cons] at p
    rw [putT, upd_ne (Nat.ne_of_gt (p.1 t' (List.mem_of_getElem? (by simpa using h1))))]
    exact putT_at p.2 (by simpa using h1) (by simpa using h2) (by simpa using h3)
theorem refs_of : ∀ l : List Value, (∀ v ∈ l, ∃ b : Addr, v = .ref b) → ∃ ts : List Addr, l = ts.map Value.ref
  | [], _ => ⟨[], rfl⟩
  | v :: l, h => by
    obtain ⟨b, rfl⟩ := h v List.mem_cons_self
    obtain ⟨ts, rfl⟩ := refs_of l fun u hu => h u (List.mem_cons_of_mem _ hu)
    exact ⟨b :: ts, rfl⟩
/-- the abstract heap behind list(zip(..)) -/
def zipH (H : Hp) (L : Addr) (ts : List Addr) (xs ys : List V) : Hp := upd (putT H ts xs ys) L (.lst (ts.map V.ref))
def tLstZip (K : PySem.W.Frag) (ta : TA) : TE := fun σ H Q => ta σ H fun vs H1 => ∃ a b xs ys, vs = [.ref a, .ref b] ∧ SqT K H1 a xs ∧ SqT K H1 b ys ∧
  ∀ (q : Addr) (ts : List Addr) (H2 : Hp), Same H1 H2 → H2 q = some (.lst (ts.map V.ref)) → ts.length = min xs.length ys.length → (∀ (j : Nat) (t : Addr) (x y : V), ts[j]? = some t → xs[j]? = some x → ys[j]? = some y → H2 t = some (.tup [x, y])) → Q (.ref q) H2
theorem pe_listZip {X : Cx} {e e2 : Expr} {ta : TA} {p p2 pos pos2 : Pos} (hc : X.calm = true) (hg : Gl X "list") (hm : X.mg "list" = none) (hgz : Gl X "zip") (hmz : X.mg "zip" = none) (ha : PA X [e, e2] ta)
    (hs : starEach [e, e2] X.env = (false, eval e X.env) :: starEach [e2] X.env := by rfl) (hpl : (backTo pos2 (starEach [e2] X.env)).any (·.1) = false := by rfl)
    (na : starEach [Expr.Call (.Name "zip" p2) [e, e2] [] pos2] X.env = (false, eval (.Call (.Name "zip" p2) [e, e2] [] pos2) X.env) :: starEach [] X.env := by rfl) :
    PE X (.Call (.Name "list" p) [.Call (.Name "zip" p2) [e, e2] [] pos2] [] pos) (tLstZip X.K ta) := by
  refine ⟨fun pins s σ H Q I h => ?_⟩
  have inner : wpAny (model X.prog X.w) X.A (eval (.Call (.Name "zip" p2) [e, e2] [] pos2) X.env) (fun x s' => ∃ (s1 : Shared) (h' : Heap) (H1 : Hp) (a b : Addr) (xs ys : List V) (its its2 : List Value),
      s' = { s1 with heap := h' } ∧ x = .ref (s1.heap.objs.size + 4) ∧ Inv X pins σ H1 s1 ∧ Vals xs its ∧ Vals ys its2 ∧ s1.heap.IsTuple a its.toArray ∧ s1.heap.IsTuple b its2.toArray ∧ its.length ≤ sizeLine ∧
      IsZip h' (s1.heap.objs.size + 4) (s1.heap.objs.size + 2) (s1.heap.objs.size + 3) .none ∧ IsPair h' (s1.heap.objs.size + 2) (.ref s1.heap.objs.size) (.ref (s1.heap.objs.size + 1)) ∧ IsPair h' (s1.heap.objs.size + 3) .none .none ∧
      h'.IsTupleIter s1.heap.objs.size a 0 ∧ h'.IsTupleIter (s1.heap.objs.size + 1) b 0 ∧ h'.objs.size = s1.heap.objs.size + 5 ∧ (∀ c o, s1.heap.get? c = some o → h'.get? c = some o) ∧
      ∀ (q : Addr) (ts : List Addr) (H2 : Hp), Same H1 H2 → H2 q = some (.lst (ts.map V.ref)) → ts.length = min xs.length ys.length → (∀ (j : Nat) (t : Addr) (x y : V), ts[j]? = some t → xs[j]? = some x → ys[j]? = some y → H2 t = some (.tup [x, y])) → Q (.ref q) H2) X.xe s := by
    refine Call_ (ld_blt I hgz hmz PyProof.Rows.boot_zip (PyProof.Rows.callWith_type1 (thn (ha.run pos2 pins s σ H _ I h) fun us s1 ⟨vs, H1, I1, r1, q1⟩ => ?_) hs hpl))
    obtain ⟨a, b, xs, ys, ex, hx, hy, q⟩ := q1
    subst ex
    cases r1 with
    | cons r rr =>
      cases rr with
      | cons r' rr =>
        cases rr
        cases r
        cases r'
        obtain ⟨its, rv, t1, z1⟩ := I1.tuple hx
        obtain ⟨its2, rv2, t2, _⟩ := I1.tuple hy
        have l1 := rv.length
        exact RZ.call_zipT (show s1.heap.IsTuple a its.toArray from t1) (show s1.heap.IsTuple b its2.toArray from t2) fun h' hz hTI hTO h1 h2 hsz hk => ⟨s1, h', H1, a, b, xs, ys, its, its2, rfl, rfl, I1, rv, rv2, t1, t2, by omega, hz, hTI, hTO, h1, h2, hsz, hk, q⟩
  refine Call_ (ld_blt I hg hm boot_list (PyProof.Rows.callWith_type1 (args_cons (thn inner fun x s' hx => args_nil ?_) na) na))
  obtain ⟨s1, h', H1, a, b, xs, ys, its, its2, rfl, rfl, I1, rv, rv2, t1, t2, hlen, hz, hTI, hTO, h1, h2, hsz, hk, q⟩ := hx
  obtain ⟨o1, g1, _⟩ := id t1
  obtain ⟨o2, g2, _⟩ := id t2
  have aN : a < s1.heap.objs.size := Heap.lt_size g1
  have bN : b < s1.heap.objs.size := Heap.lt_size g2
  have S := zip_sep2 (N := s1.heap.objs.size) (fp1 := [a]) (fp2 := [b]) (fun c hc => by rw [List.mem_singleton.mp hc]; exact aN) (fun c hc => by rw [List.mem_singleton.mp hc]; exact bN)
  have l1 := rv.length
  have l2 := rv2.length
  refine list_zip (s := { s1 with heap := h' }) S (fun A hh => Draws.tuple hh s1.heap.objs.size a (Nat.ne_of_lt aN) its.toArray) (fun A hh => Draws.tuple hh (s1.heap.objs.size + 1) b (Nat.ne_of_lt (Nat.lt_succ_of_lt bN)) its2.toArray) (I1.ok.hd hc)
    (by rw [List.size_toArray]; omega) hz hTI hTO ⟨h1, t1.at fun o e => hk _ o e⟩ ⟨h2, t2.at fun o e => hk _ o e⟩ ?_ ?_ ?_
  · intro c hc
    show c < h'.objs.size
    rw [hsz]
    rcases List.mem_cons.mp hc with e | e
    · rw [e]; exact Nat.lt_add_of_pos_right (by decide)
    · rw [List.mem_singleton.mp e]; exact Nat.lt_of_lt_of_le aN (Nat.le_add_right _ _)
  · intro c hc
    show c < h'.objs.size
    rw [hsz]
    rcases List.mem_cons.mp hc with e | e
    · rw [e]; exact Nat.add_lt_add_left (by decide) _
    · rw [List.mem_singleton.mp e]; exact Nat.lt_of_lt_of_le bN (Nat.le_add_right _ _)
  · intro hf tk acc c' keep hL hacc hM
    obtain ⟨ts, hts⟩ := refs_of acc.toList fun v hv => by
      obtain ⟨j, hj⟩ := List.getElem?_of_mem hv
      obtain ⟨t, _, _, ev, _⟩ := hM.1 j v (by rw [← Array.getElem?_toList]; exact hj)
      exact ⟨t, ev⟩
    have at_ : ∀ (j : Nat) (t : Addr), ts[j]? = some t → acc[j]? = some (Value.ref t) := fun j t e => by
      rw [← Array.getElem?_toList, hts, List.getElem?_map, e]; rfl
    have big' : ∀ (j : Nat) (t : Addr), ts[j]? = some t → h'.objs.size + 1 ≤ t := fun j t e => by
      obtain ⟨b', _, _, ev, hb, _⟩ := hM.1 j _ (at_ j t e)
      cases ev
      exact hb
    have inc : ts.Pairwise (· < ·) := by
      rw [List.pairwise_iff_getElem]
      intro i j hi hj hij
      exact hM.2 i j _ _ hij (at_ i _ (List.getElem?_eq_getElem hi)) (at_ j _ (List.getElem?_eq_getElem hj))
    have hlt : ts.length = min xs.length ys.length := by
      have e1 : ts.length = acc.toList.length := by rw [hts, List.length_map]
      rw [e1, Array.length_toList, hacc, List.size_toArray, List.size_toArray, l1, l2]
    have notL : h'.objs.size ∉ ts := fun q => by
      obtain ⟨j, hj⟩ := List.getElem?_of_mem q
      exact Nat.not_succ_le_self _ (big' j _ hj)
    have small : ∀ c : Addr, c < s1.heap.objs.size → zipH H1 h'.objs.size ts xs ys c = H1 c := fun c hc => by
      have c1 : c ≠ h'.objs.size := Nat.ne_of_lt (Nat.lt_of_lt_of_le hc (by rw [hsz]; exact Nat.le_add_right _ _))
      have c2 : c ∉ ts := fun q => by
        obtain ⟨j, hj⟩ := List.getElem?_of_mem q
        have g := big' j _ hj
        rw [hsz] at g
        exact absurd (Nat.lt_of_lt_of_le hc (Nat.le_trans (Nat.le_add_right _ 6) g)) (Nat.lt_irrefl _)
      unfold zipH
      rw [upd_ne c1, putT_old c2]
    have kk : ∀ c o, s1.heap.get? c = some o → hf.get? c = some o := fun c o e => by
      have hcN : c < s1.heap.objs.size := Heap.lt_size e
      have g : ∀ n : Nat, c ≠ s1.heap.objs.size + n := fun n => Nat.ne_of_lt (Nat.lt_of_lt_of_le hcN (Nat.le_add_right _ n))
      exact keep c o (by show c < h'.objs.size; rw [hsz]; exact Nat.lt_of_lt_of_le hcN (Nat.le_add_right _ 5)) (g 4) (g 3) (g 0) (g 1) (hk c o e)
    have old : ∀ c u, H1 c = some u → zipH H1 h'.objs.size ts xs ys c = some u := fun c u e => by rw [small c (I1.hok.lt e)]; exact e
    have hq : zipH H1 h'.objs.size ts xs ys h'.objs.size = some (.lst (ts.map V.ref)) := upd_same
    have hT : ∀ (j : Nat) (t : Addr) (x y : V), ts[j]? = some t → xs[j]? = some x → ys[j]? = some y → zipH H1 h'.objs.size ts xs ys t = some (.tup [x, y]) := fun j t x y e1 e2 e3 => by
      have ht : t ≠ h'.objs.size := Nat.ne_of_gt (big' j t e1)
      unfold zipH
      rw [upd_ne ht]
      exact putT_at inc e1 e2 e3
    refine ⟨.ref h'.objs.size, zipH H1 h'.objs.size ts xs ys, I1.un (t' := tk) (h' := hf) ⟨fun c o e _ _ _ => kk c o e, fun c o e _ _ _ => ⟨o.slots, kk c o e⟩, fun c o e n _ => by rw [small c (Heap.lt_size e)]; exact n, fun c o e _ => ⟨o, kk c o e⟩, fun c us e => old c _ e, fun c o u e => old c _ e, fun c ps e => ⟨#[], by rw [old c _ e]; simp⟩⟩ ?_, rfl, q _ ts _ old hq hlt hT⟩
    intro c u e
    by_cases hc' : c = h'.objs.size
    · subst hc'
      rw [hq] at e
      cases e
      refine ⟨by rw [List.length_map, hlt]; omega, acc.toList, c', ?_, by rw [Array.toArray_toList]; exact hL⟩
      rw [hts]
      exact vals_refs ts
    · unfold zipH at e
      rw [upd_ne hc'] at e
      rcases putT_inv e with e | ⟨j, x, y, j1, j2, j3, rfl⟩
      · exact (I1.hok c u e).stay (fun d v _ g => kk d v g) (fun d g => old d _ g) fun d us g => old d _ g
      · obtain ⟨b', x1, x2, ev, hb, p1, p2, ht⟩ := hM.1 j _ (at_ j c j1)
        cases ev
        obtain ⟨u1, w1, v1⟩ := rv.get j2
        obtain ⟨u2, w2, v2⟩ := rv2.get j3
        have e1 : u1 = x1 := Option.some.inj (w1.symm.trans (by simpa using p1))
        have e2 : u2 = x2 := Option.some.inj (w2.symm.trans (by simpa using p2))
        subst e1 e2
        exact ⟨by show 2 ≤ sizeLine; decide, [u1, u2], .cons v1 (.cons v2 .nil), ⟨_, ht, rfl, _, rfl⟩⟩
end My

set_option Elab.async false
set_option linter.all false
set_option maxRecDepth 100000
set_option maxHeartbeats 4000000
namespace My
open PySem PySem.W PySem.Spec PyProof.Rows L2
/-- zip of a text and a tuple as it stands -/
def ItzS (K : PySem.W.Frag) (x : Str) (b : Addr) (ys : List V) : It :=
  ⟨fun i H => SqT K H b ys ∧ i < x.cps.size ∧ i < ys.length,
    fun i H v H' => ∃ T c y, v = .ref T ∧ H T = none ∧ H' = upd H T (.tup [.str ⟨#[c]⟩, y]) ∧ x.cps[i]? = some c ∧ ys[i]? = some y,
    fun i H => SqT K H b ys ∧ (x.cps.size ≤ i ∨ ys.length ≤ i)⟩
theorem turn_zipS {P : Program} {w : World} {K : PySem.W.Frag} {elts : List Expr} {kk : Nat} {tpos : Pos} {N b : Addr} {x : Str} {t : Tok} {ys : List V} (bN : b < N) :
    Turn P w K (.Tuple elts kk tpos) (ItzS K x b ys) [N + 4, N + 2, N + 3, N, N + 1] (N + 4) (fun i h => IsZip h (N + 4) (N + 2) (N + 3) .none ∧ IsTupOf2 h (N + 2) (.ref N) (.ref (N + 1)) ∧ (∃ a1 a2, IsTupOf2 h (N + 3) a1 a2) ∧ h.IsStrIter N (strIterType x) x t i ∧ h.IsTupleIter (N + 1) b i ∧ i ≤ x.cps.size ∧ i ≤ ys.length) where
  mem := by simp
  obj := fun i h st c hc => by
    obtain ⟨hz, hTI, ⟨a1, a2, hTO⟩, ⟨o1, e1, _, d1⟩, ⟨o2, e2, _, d2⟩, _, _⟩ := st
    have e' : c = N + 4 ∨ c = N + 2 ∨ c = N + 3 ∨ c = N ∨ c = N + 1 := by simpa using hc
    rcases e' with q | q | q | q | q
    · rw [q]; exact ⟨_, hz, fun v q => nomatch q⟩
    · rw [q]; exact ⟨_, hTI, fun v q => nomatch q⟩
    · rw [q]; exact ⟨_, hTO, fun v q => nomatch q⟩
    · rw [q]; exact ⟨o1, e1, fun v q => by rw [d1] at q; cases q⟩
    · rw [q]; exact ⟨o2, e2, fun v q => by rw [d2] at q; cases q⟩
  keep := fun i h h' st k => by
    obtain ⟨hz, hTI, ⟨a1, a2, hTO⟩, ⟨o1, e1, r1⟩, h2, l1, l2⟩ := st
    exact ⟨k _ (by simp) _ hz, k _ (by simp) _ hTI, ⟨a1, a2, k _ (by simp) _ hTO⟩, ⟨o1, k _ (by simp) _ e1, r1⟩, h2.at fun o q => k _ (by simp) o q, l1, l2⟩
  item := by
    intro X hP hw hK hc i pins s σ H E I hf st hg
    subst hP hw hK
    obtain ⟨hz, hTI, ⟨a1, a2, hTO⟩, h1, h2, l1, l2⟩ := st
    obtain ⟨hqy, g1, g2⟩ := hg
    obtain ⟨its2, rv2, p2, _⟩ := I.tuple hqy
    have hl2 := rv2.length
    have S := zip_sep2 (N := N) (fp1 := []) (fp2 := [b]) (fun c hc => nomatch hc) (fun c hc => by rw [List.mem_singleton.mp hc]; exact bN)
    have d1 := Draws.text (prog := X.prog) (w := X.w) (A := X.A.in1) (I.ok.hd hc) N x t
    have d2 := Draws.tuple (prog := X.prog) (w := X.w) (A := X.A.in1) (I.ok.hd hc) (N + 1) b (Nat.ne_of_lt (Nat.lt_succ_of_lt bN)) its2.toArray
    refine wpAny_pyNext_zipD2_item S d1 d2 hz hTI hTO h1 ⟨h2, p2⟩ g1 (by rw [List.size_toArray]; omega) fun x1 x2 h' tk q1 q2 hz' hTO' s1 s2 hT hsz hk => ?_
    obtain ⟨c, u, hcx, rfl⟩ := q1
    have hzl : N + 4 < s.heap.objs.size := Heap.lt_size hz
    refine ⟨_, rfl, wpAny_letOwnedTupleGo_zip (s := { s with heap := h', toks := tk }) hz' fun h'' z'' sb => ?_⟩
    have sb : Heap.SameBut (N + 4) h' h'' := sb
    have hys : ys[i]? = some ys[i] := List.getElem?_eq_getElem g2
    obtain ⟨u2, hu2, ru2⟩ := rv2.get hys
    have e2 : u2 = x2 := Option.some.inj (hu2.symm.trans (by simpa using q2))
    subst e2
    have hT2 : h''.get? s.heap.objs.size = some { cls := .type "tuple", data := .seq #[.str ⟨#[c]⟩ u, u2] } := (sb.2 _ (Nat.ne_of_gt hzl)).trans hT
    have new : ObjOk X.prog X.w (upd H s.heap.objs.size (.tup [.str ⟨#[c]⟩, ys[i]])) h'' s.heap.objs.size (.tup [.str ⟨#[c]⟩, ys[i]]) :=
      ⟨by show 2 ≤ sizeLine; decide, [.str ⟨#[c]⟩ u, u2], .cons ⟨u, rfl⟩ (.cons ru2 .nil), ⟨_, hT2, rfl, _, rfl⟩⟩
    have I1 : Inv X pins σ (upd H s.heap.objs.size (.tup [.str ⟨#[c]⟩, ys[i]])) { s with heap := h'', toks := tk } :=
      I.turnedNew (t' := tk) (ch := [N + 4, N + 2, N + 3, N, N + 1]) (fun c o hb q => (sb.2 c (fun q' => hb (by simp [q']))).trans (hk c o (fun q' => hb (by simp [q'])) (fun q' => hb (by simp [q'])) (fun q' => hb (by simp [q'])) (fun q' => hb (by simp [q'])) q)) hf (Nat.le_refl _) new
    have ne : ∀ {a k : Nat}, a < k → N + a ≠ N + k := fun h => Nat.ne_of_lt (Nat.add_lt_add_left h _)
    have st' : h''.IsStrIter N (strIterType x) x t (i + 1) := let ⟨o, ho, r⟩ := s1; ⟨o, (sb.2 _ (ne (a := 0) (k := 4) (by decide))).trans ho, r⟩
    refine ⟨.ref s.heap.objs.size, _, I1, rfl, ⟨_, c, ys[i], rfl, I.hok.fresh (Nat.le_refl _), rfl, hcx, hys⟩, ⟨z'', ?_, ⟨.str ⟨#[c]⟩ u, u2, ?_⟩, st', ?_, g1, g2⟩, fun c' hcm => ?_⟩
    · exact (sb.2 _ S.TIz).trans (hk _ _ S.TIz S.TITO S.TIi1 S.TIi2 hTI)
    · exact (sb.2 _ S.TOz).trans hTO'
    · exact s2.1.at fun o q => (sb.2 _ (ne (a := 1) (k := 4) (by decide))).trans q
    · have hlt : c' < s.heap.objs.size := by
        have e' : c' = N + 4 ∨ c' = N + 2 ∨ c' = N + 3 ∨ c' = N ∨ c' = N + 1 := by simpa using hcm
        have b4 : ∀ k, k ≤ 4 → N + k < s.heap.objs.size := fun k hk' => Nat.lt_of_le_of_lt (Nat.add_le_add_left hk' _) hzl
        rcases e' with q | q | q | q | q
        · rw [q]; exact hzl
        · rw [q]; exact b4 2 (by decide)
        · rw [q]; exact b4 3 (by decide)
        · rw [q]; exact b4 0 (by decide)
        · rw [q]; exact b4 1 (by decide)
      rw [upd_ne (Nat.ne_of_lt hlt)]
      exact (hf c' hcm).1
  done := by
    intro X hP hw hK hc i pins s σ H E I hf st hg
    subst hP hw hK
    obtain ⟨hz, hTI, ⟨a1, a2, hTO⟩, h1, h2, l1, l2⟩ := st
    obtain ⟨hqy, hend⟩ := hg
    have hend : x.cps.size ≤ i ∨ ys.length ≤ i := hend
    obtain ⟨its2, rv2, p2, _⟩ := I.tuple hqy
    have hl2 := rv2.length
    have S := zip_sep2 (N := N) (fp1 := []) (fp2 := [b]) (fun c hc => nomatch hc) (fun c hc => by rw [List.mem_singleton.mp hc]; exact bN)
    have d1 := Draws.text (prog := X.prog) (w := X.w) (A := X.A.in1) (I.ok.hd hc) N x t
    have d2 := Draws.tuple (prog := X.prog) (w := X.w) (A := X.A.in1) (I.ok.hd hc) (N + 1) b (Nat.ne_of_lt (Nat.lt_succ_of_lt bN)) its2.toArray
    exact wpAny_pyNext_zipD2_end S d1 d2 hz hTI hTO h1 ⟨h2, p2⟩ l1 (by rw [List.size_toArray]; omega) (by rcases hend with q | q; exact .inl (Nat.le_antisymm l1 q); exact .inr (by have := List.size_toArray (as := its2); omega)) fun h' tk hk => ⟨rfl, I.turnedL (t' := tk) (ch := [N + 4, N + 2, N + 3, N, N + 1]) (fun c o hb q =>
      hk c o (fun q' => hb (by simp [q'])) (fun q' => hb (by simp [q'])) (fun q' => hb (by simp [q'])) (fun q' => hb (by simp [q'])) q) hf⟩
  self := fun A i s Q E st h => wpAny_pyIter_zip st.1 h
def iZipS (K : PySem.W.Frag) (ta : TA) : TI := fun σ H R => ta σ H fun vs H1 => ∃ x b ys, vs = [.str x, .ref b] ∧ SqT K H1 b ys ∧ R (ItzS K x b ys) H1
theorem pi_zipS {X : Cx} {e e2 : Expr} {ta : TA} {p pos tpos : Pos} {elts : List Expr} {kk : Nat} (hg : Gl X "zip") (hm : X.mg "zip" = none) (ha : PA X [e, e2] ta)
    (hs : starEach [e, e2] X.env = (false, eval e X.env) :: starEach [e2] X.env := by rfl) (hpl : (backTo pos (starEach [e2] X.env)).any (·.1) = false := by rfl) :
    PI X (.Tuple elts kk tpos) (.Call (.Name "zip" p) [e, e2] [] pos) (iZipS X.K ta) := by
  refine ⟨fun pins s σ H R I h => ?_⟩
  refine Call_ (ld_blt I hg hm PyProof.Rows.boot_zip (PyProof.Rows.callWith_type1 (thn (ha.run pos pins s σ H _ I h) fun us s1 ⟨vs, H1, I1, r1, q1⟩ => ?_) hs hpl))
  obtain ⟨x, b, ys, ex, hy, q⟩ := q1
  subst ex
  cases r1 with
  | cons r rr =>
    cases rr with
    | cons r' rr =>
      cases rr
      obtain ⟨t, rfl⟩ := r
      cases r'
      obtain ⟨its2, rv2, p2, _⟩ := I1.tuple hy
      obtain ⟨o2, g2, _⟩ := id p2
      refine zip_begins2 (begins_text x t) (begins_tuple b its2.toArray) trivial p2 fun h' hz hTI hTO h1 h2 hsz hk => wpAny_pyIter_zip hz ?_
      have I2 : Inv X pins σ H1 { s1 with heap := h' } := I1.kept (t' := s1.toks) hk
      refine ⟨s1.heap.objs.size + 4, _, _, _, H1, rfl, I2, turn_zipS (x := x) (t := t) (ys := ys) (Heap.lt_size g2), ⟨hz, hTI, ⟨_, _, hTO⟩, ⟨_, h1, rfl, rfl⟩, ⟨_, h2, rfl, rfl⟩, Nat.zero_le _, Nat.zero_le _⟩, fun c hcm => ?_, q⟩
      have e' : c = s1.heap.objs.size + 4 ∨ c = s1.heap.objs.size + 2 ∨ c = s1.heap.objs.size + 3 ∨ c = s1.heap.objs.size ∨ c = s1.heap.objs.size + 1 := by simpa using hcm
      have hle : s1.heap.objs.size ≤ c := by
        rcases e' with z | z | z | z | z
        · rw [z]; exact Nat.le_add_right _ _
        · rw [z]; exact Nat.le_add_right _ _
        · rw [z]; exact Nat.le_add_right _ _
        · rw [z]; exact Nat.le_refl _
        · rw [z]; exact Nat.le_add_right _ _
      exact I1.fpOk hle (I1.hok.fresh hle)
/-- a loop over zip of a text and a tuple of one length -/
theorem for_zipS {K : PySem.W.Frag} {x : Str} {b : Addr} {ys : List V} {g : TG} {tb : TS} {D : Ends} {σ : L2.St} {H : Hp} (hl : x.cps.size = ys.length) (Pv : Nat → L2.St → Hp → Prop) (h0 : Pv 0 σ H) (hq : ∀ i σ H, Pv i σ H → SqT K H b ys)
    (hs : ∀ (i c : Nat) (y : V) (T : Addr) (σ : L2.St) (H : Hp), x.cps[i]? = some c → ys[i]? = some y → Pv i σ H → H T = none → g (.ref T) σ (upd H T (.tup [.str ⟨#[c]⟩, y])) fun σ2 H2 => tb { D with nx := Pv (i + 1), ct := Pv (i + 1), bk := D.nx } σ2 H2) (hd : ∀ σ H, Pv ys.length σ H → D.nx σ H) :
    ∃ W : Nat → Nat → L2.St → Hp → Prop, (∃ m, W 0 m σ H) ∧ ∀ i m σ H, W i m σ H →
      ((ItzS K x b ys).stop i H ∧ D.nx σ H) ∨ ((ItzS K x b ys).go i H ∧ ∃ N : L2.St → Hp → Prop, (∀ σ' H', N σ' H' → ∃ m', m' < m ∧ W (i + 1) m' σ' H') ∧ ∀ v H', (ItzS K x b ys).yld i H v H' → g v σ H' fun σ2 H2 => tb { D with nx := N, ct := N, bk := D.nx } σ2 H2) := by
  refine ⟨fun i m σ H => m = ys.length - i ∧ i ≤ ys.length ∧ Pv i σ H, ⟨ys.length, rfl, Nat.zero_le _, h0⟩, ?_⟩
  rintro i m σ H ⟨rfl, hi, p⟩
  have q := hq i σ H p
  by_cases hlt : i < ys.length
  · refine .inr ⟨⟨q, by omega, hlt⟩, Pv (i + 1), fun σ' H' p' => ⟨ys.length - (i + 1), by omega, rfl, hlt, p'⟩, fun v H' y => ?_⟩
    obtain ⟨T, c, y', rfl, hT, rfl, f1, f2⟩ := y
    exact hs i c y' T σ H f1 f2 p hT
  · have e : i = ys.length := by omega
    subst e
    exact .inl ⟨⟨q, .inr (Nat.le_refl _)⟩, hd σ H p⟩
end My

set_option Elab.async false
set_option linter.all false
set_option maxRecDepth 100000
set_option maxHeartbeats 4000000
namespace My
open PySem PySem.W PySem.Spec PyProof.Rows L2
/-- a local name that holds one of several defs, called -/
def tCallA (i : Nat) (Ok : Addr → Sp → Prop) (t : TA) : TE := fun σ H Q => ∃ f sp, σ[i]? = some (some (.ref f)) ∧ Ok f sp ∧ t σ H fun vs H1 => sp vs H1 Q E0
theorem pe_cvA {X : Cx} {i k : Nat} {x : Str} {e : Expr} {es : List Expr} {t : TA} {p pos : Pos} {Ok : Addr → Sp → Prop} (c : ∀ f sp, Ok f sp → C8.CalAt X.prog X.w X.K X.mg X.base k f sp) (hr : Room k X.A) (hN : X.N[i]? = some x) (hv : Vis X.env.scope x) (ha : PA X (e :: es) t)
    (hd : (x == ("__debug__" : Str)) = false := by decide) (hcd : (x == ("__classdict__" : Str)) = false := by decide)
    (he : starEach (e :: es) X.env = (false, eval e X.env) :: starEach es X.env := by rfl) (hpl : (backTo pos (starEach es X.env)).any (·.1) = false := by rfl) :
    PE X (.Call (.Name x p) (e :: es) [] pos) (tCallA i Ok t) := by
  refine ⟨fun pins s σ H Q I h => ?_⟩
  obtain ⟨f, sp, hs, hok, ht⟩ := h
  obtain ⟨fd, ps, F, kp, b⟩ := (c f sp hok).ex
  refine wpAny_Call_Name_kw (thn ((pe_var (pos := p) hN hv hd hcd).run pins s σ H (fun v H1 => v = .ref f ∧ H1 = H) I ⟨.ref f, hs, rfl, rfl⟩) fun u s1 ⟨v, H1, I1, r1, q1⟩ => ?_)
  obtain ⟨rfl, rfl⟩ := q1
  cases r1
  refine PySem.W.callWith_K (h₀ := X.base) I.ok.mod.kin kp (thn (ha.run pos pins s1 σ _ _ I1 ht) fun us s2 ⟨vs, H2, I2, r, q⟩ => ⟨I2.kIn, ?_⟩) he hpl
  exact run_fn F hr b .nil pass0 I2 r (by rw [List.append_nil]; exact q)
/-- d.update(e) of two dicts of ours -/
def rUpdate : V → List V → Hp → VK → Prop := fun x vs H Q => ∃ d o kvs ws, x = .ref d ∧ vs = [.ref o] ∧ H d = some (.dK kvs) ∧ H o = some (.dK ws) ∧ d ≠ o ∧ kvs.length + ws.length ≤ sizeLine ∧ Q .non (upd H d (.dK (mergeK kvs ws)))
theorem mt_update {X : Cx} : MtM X "dict.update" rUpdate := by
  intro pins s σ H x vs v us Q I rx rv h
  obtain ⟨d, o, kvs, ws, rfl, rfl, hd, ho, hne, hz, q⟩ := h
  cases rx
  obtain ⟨u, rfl, ru⟩ := rv.one
  cases ru
  obtain ⟨z1, lo1, vs1, k1, hD⟩ := (show ObjOk X.prog X.w H s.heap d (.dK kvs) from I.hok d _ hd)
  obtain ⟨z2, lo2, vs2, k2, hO⟩ := (show ObjOk X.prog X.w H s.heap o (.dK ws) from I.hok o _ ho)
  have e1 := Paired.length k1
  have e2 := Paired.length k2
  refine call_meetsIn PySem.F.slot_dict_update hD.typeIs PySem.F.entry_dict_update (PySem.F.args_dict_update_2 _ _) (meets_dict_update (mixKind X.prog X.w) d o hne lo2)
    ⟨vs1, vs2, hD, hO, (by omega), fun h' hm _ hs => ?_⟩
  refine ⟨.non, upd H d (.dK (mergeK kvs ws)), I.write (t' := s.toks) (x := d) (e := d) (by rw [hd]; exact trivial) (.inl rfl) (fun b q hb z => (hs.2 b hb).trans z) ?_ ?_, rfl, q⟩
  · obtain ⟨o', ho', _⟩ := Heap.dictOf_iff.mp hm
    exact ⟨o', ho'⟩
  · refine ⟨?_, lo1, merged vs1 vs2, KV.merge k2 k1, hm⟩
    have e := Paired.length (KV.merge k2 k1)
    have e' := merged_length_le vs1 vs2
    omega
end My

set_option Elab.async false
set_option linter.all false
set_option maxRecDepth 100000
set_option maxHeartbeats 4000000
namespace My
open PySem L2
def top (i : Nat) : Stmt := PySem.Challenge.pw_rankloop_k65_texts_of_no_script.main.body.getD i (.Pass ⟨0, 0, 0, 0⟩)
/-! ### the pen: what a law draws from -/
abbrev kC : Key := Sum.inr "cells"
abbrev kA : Key := Sum.inr "at"
abbrev kL : Key := Sum.inr "left"
def pen (l : Addr) (n L : Int) : List (Key × V) := [(kC, .ref l), (kA, .int n), (kL, .int L)]
theorem sCA : ¬ Str.ofString "cells" = Str.ofString "at" := by decide +kernel
theorem sCL : ¬ Str.ofString "cells" = Str.ofString "left" := by decide +kernel
theorem sAL : ¬ Str.ofString "at" = Str.ofString "left" := by decide +kernel
theorem sLA : ¬ Str.ofString "left" = Str.ofString "at" := by decide +kernel
theorem nCA : ¬ kC = kA := fun h => absurd (Sum.inr.inj h) (by decide +kernel)
theorem nCL : ¬ kC = kL := fun h => absurd (Sum.inr.inj h) (by decide +kernel)
theorem nAL : ¬ kA = kL := fun h => absurd (Sum.inr.inj h) (by decide +kernel)
theorem pen_c (l : Addr) (n L : Int) : valV (pen l n L) kC = some (.ref l) := valV_pos rfl
theorem pen_a (l : Addr) (n L : Int) : valV (pen l n L) kA = some (.int n) := (valV_neg nCA).trans (valV_pos rfl)
theorem pen_l (l : Addr) (n L : Int) : valV (pen l n L) kL = some (.int L) := (valV_neg nCL).trans ((valV_neg nAL).trans (valV_pos rfl))
theorem pen_putA (l : Addr) (n L m : Int) : putK (pen l n L) kA (.int m) = pen l m L := by
  simp [putK, pen, sCA, sLA]
theorem pen_putL (l : Addr) (n L m : Int) : putK (pen l n L) kL (.int m) = pen l n m := by
  simp [putK, pen, sCL, sAL]
theorem pen_len (l : Addr) (n L : Int) : (pen l n L).length < sizeLine := by
  show 3 < sizeLine
  decide
theorem pen_new (l : Addr) (n L : Int) : mergeK [] (pen l n L) = pen l n L := by
  have h1 : putK [] kC (.ref l) = [(kC, V.ref l)] := rfl
  have h2 : putK [(kC, V.ref l)] kA (.int n) = [(kC, V.ref l), (kA, V.int n)] := by simp [putK, sCA]
  have h3 : putK [(kC, V.ref l), (kA, V.int n)] kL (.int L) = pen l n L := by simp [putK, pen, sCL, sAL]
  show putK (putK (putK [] kC (.ref l)) kA (.int n)) kL (.int L) = _
  rw [h1, h2, h3]
/-- a pen stands at d, its cells at l -/
structure Pen (H : Hp) (d l : Addr) (ms : List Int) (n L : Int) : Prop where
  dc : H d = some (.dK (pen l n L))
  ls : H l = some (.lst (ms.map V.int))
  n0 : 0 ≤ n
  l0 : 0 ≤ L
theorem Pen.ne {H : Hp} {d l : Addr} {ms : List Int} {n L : Int} (p : Pen H d l ms n L) : l ≠ d := ne_of p.ls p.dc (by intro z; cases z)
theorem Pen.gC {H : Hp} {d l : Addr} {ms : List Int} {n L : Int} (p : Pen H d l ms n L) : DGet H d (.str "cells") (some (.ref l)) := by
  have h := DGet.k (k := kC) p.dc
  rw [pen_c] at h
  exact h
theorem Pen.gA {H : Hp} {d l : Addr} {ms : List Int} {n L : Int} (p : Pen H d l ms n L) : DGet H d (.str "at") (some (.int n)) := by
  have h := DGet.k (k := kA) p.dc
  rw [pen_a] at h
  exact h
theorem Pen.gL {H : Hp} {d l : Addr} {ms : List Int} {n L : Int} (p : Pen H d l ms n L) : DGet H d (.str "left") (some (.int L)) := by
  have h := DGet.k (k := kL) p.dc
  rw [pen_l] at h
  exact h
theorem Pen.pA {H : Hp} {d l : Addr} {ms : List Int} {n L : Int} (p : Pen H d l ms n L) (y : Int) : DPut H d (.str "at") (.int y) (L2.upd H d (.dK (pen l y L))) := by
  have h := DPut.k (k := kA) (v := .int y) p.dc (pen_len l n L)
  rw [pen_putA] at h
  exact h
theorem Pen.pL {H : Hp} {d l : Addr} {ms : List Int} {n L : Int} (p : Pen H d l ms n L) (y : Int) : DPut H d (.str "left") (.int y) (L2.upd H d (.dK (pen l n y))) := by
  have h := DPut.k (k := kL) (v := .int y) p.dc (pen_len l n L)
  rw [pen_putL] at h
  exact h
def spPen (K : PySem.W.Frag) : Sp := fun vs H Q _ => ∃ (a : Addr) (ns : List Int), vs = [.ref a] ∧ SqL K H a (ns.map V.int) ∧
  ∀ (d l : Addr) (ms : List Int) (H' : Hp), H d = none → H l = none → Same H H' → Pen H' d l ms 0 0 → Q (.ref d) H'
def spDraw : Sp := fun vs H Q _ => ∃ (d l : Addr) (ms : List Int) (n L m : Int), vs = [.ref d, .int m] ∧ Pen H d l ms n L ∧ n < 2 ^ 40 ∧ 0 < m ∧ m < 1073741824 ∧
  ∀ (r n' L' : Int) (H' : Hp), 0 ≤ r → r < m → n ≤ n' → n' ≤ n + 1 → Pen H' d l ms n' L' → (∀ c o, H c = some o → c ≠ d → H' c = some o) → Q (.int r) H'
theorem Pen.upd' {H : Hp} {d l : Addr} {ms : List Int} {n L n' L' : Int} (p : Pen H d l ms n L) (h1 : 0 ≤ n') (h2 : 0 ≤ L') : Pen (L2.upd H d (.dK (pen l n' L'))) d l ms n' L' :=
  ⟨upd_same, by rw [upd_ne p.ne]; exact p.ls, h1, h2⟩
theorem cut_ints (ns : List Int) (lo hi : Option Int) : ∃ ms : List Int, cutV (ns.map V.int) lo hi = ms.map V.int := by
  unfold cutV
  refine ⟨(ns.drop (HT.sIx (ns.map V.int).length 0 lo)).take (HT.sIx (ns.map V.int).length (ns.map V.int).length hi - HT.sIx (ns.map V.int).length 0 lo), ?_⟩
  rw [List.map_take, List.map_drop]
section
variable {P : Program} {w : World} {K : PySem.W.Frag} {mg : Str → Option Value} {base : Heap}
abbrev sPen : Stmt := top 46
abbrev sDraw : Stmt := top 47
theorem scPen : FnScope ["_law_script_here"] ["_law_script_here"] (defScope sPen) := ⟨rfl, rfl, rfl, by decide +kernel, rfl, by decide +kernel, by decide +kernel⟩
theorem ok_pen {f : Addr} {fd : FuncData} (F : Fun K "_law_pen" "_law_pen" sPen f fd) (mList : mg "list" = none) : FnOk P w K mg base CX0 1 f fd ["_law_script_here"] (spPen K) := by
  refine F.ok scPen (fun vs H Q E h => ?_) (fun cdv A outer s H vs Q E hr h => ?_)
  · obtain ⟨a, ns, rfl, _⟩ := h
    rfl
  · obtain ⟨a, ns, rfl, hS, k⟩ := h
    refine ⟨_, pss_one (ps_ret (pe_disp (pps_cons pe_str (pe_callTy call_list_of (by rfl) mList (by decide +kernel) (pa_cons (pe_slice sl_list (pv 0) po_none (po_some pe_int)) pa_nil))
      (pps_cons pe_str pe_int (pps_cons pe_str pe_int pps_nil))) (by rfl) (by rfl) (fun z => by cases z) (by decide))), ?_⟩
    intro d hd
    have s1 : Same H (upd H d (.dK [])) := fun b o e => by
      rw [upd_ne (ne_of_none e hd)]; exact e
    obtain ⟨ms, em⟩ := cut_ints ns none (some 63)
    refine ⟨_, rfl, 63, rfl, a, _, rfl, s1.seq hS, fun p hp => ⟨p, _, rfl, .inl (SqL.of upd_same), fun l hl => ?_⟩⟩
    have nlp : l ≠ p := fun z => by
      rw [z, upd_same] at hl
      cases hl
    have hl1 : upd H d (.dK []) l = none := by
      rw [upd_ne nlp] at hl; exact hl
    have nld : l ≠ d := fun z => by
      rw [z, upd_same] at hl1
      cases hl1
    have npd : p ≠ d := fun z => by
      rw [z, upd_same] at hp
      cases hp
    have hl0 : H l = none := by
      rw [upd_ne nld] at hl1; exact hl1
    have hp0 : H p = none := by
      rw [upd_ne npd] at hp; exact hp
    refine ⟨by rw [upd_ne (Ne.symm nld), upd_ne (Ne.symm npd), upd_same], pen l 0 0, rfl, by show 3 ≤ 15; decide, ?_⟩
    rw [pen_new]
    refine k d l ms _ hd hl0 (fun b o e => ?_) ⟨upd_same, ?_, Int.le_refl _, Int.le_refl _⟩
    · rw [upd_ne (ne_of_none e hd), upd_ne (ne_of_none e hl0), upd_ne (ne_of_none e hp0), upd_ne (ne_of_none e hd)]
      exact e
    · rw [upd_ne nld, upd_same]
      exact congrArg (fun z => some (HO.lst z)) em
theorem scDraw : FnScope ["_law_held", "_law_many_here", "_law_found", "_law_at", "_law_cell", "_law_number"] ["_law_held", "_law_many_here"] (defScope sDraw) := ⟨rfl, rfl, rfl, by decide +kernel, rfl, by decide +kernel, by decide +kernel⟩
theorem eq_nil (ms : List Int) : (!PyData.eqv (.list (ms.map PyData.int)) (.list [])) = !ms.isEmpty := by
  cases ms <;> simp [PyData.eqv, PyData.eqvAll]
theorem dp_ints {H : Hp} : ∀ ms : List Int, DpAll K H (ms.map V.int) (ms.map PyData.int)
  | [] => .nil
  | i :: r => .cons (.int i) (dp_ints r)
theorem shaped_ints (ms : List Int) : SeqAt.shaped (.list (ms.map PyData.int)) = true := by
  have h1 : ∀ ms : List Int, PyData.canLayAll0 (ms.map PyData.int) = true := by
    intro ms
    induction ms with
    | nil => rfl
    | cons a r ih => simp [PyData.canLayAll0, PyData.canLay0, ih]
  have h2 : ∀ ms : List Int, PyData.depthAll (ms.map PyData.int) ≤ 1 := by
    intro ms
    induction ms with
    | nil => simp [PyData.depthAll]
    | cons a r ih => simp [PyData.depthAll, PyData.depth]; omega
  unfold SeqAt.shaped
  have h3 := h2 ms
  simp [PyData.canLay0, PyData.depth, h1]
  omega
theorem ok_draw {f : Addr} {fd : FuncData} (F : Fun K "_law_draw" "_law_draw" sDraw f fd) (mLen : mg "len" = none) : FnOk P w K mg base CX0 1 f fd ["_law_held", "_law_many_here"] spDraw := by
  refine F.ok scDraw (fun vs H Q E h => ?_) (fun cdv A outer s H vs Q E hr h => ?_)
  · obtain ⟨d, l, ms, n, L, m, rfl, _⟩ := h
    rfl
  · obtain ⟨d, l, ms, n, L, m, rfl, p, hn, hm0, hm1, k⟩ := h
    have hu := hu_of hr
    have nd := scDraw.nd
    refine ⟨_, pss_cons (ps_if (pt_cmpR op_gt (pe_dget hu (pv 0) pe_str (fun _ _ => rfl)) pe_int (nomark _))
        (pss_cons (ps_set (i := 2) nd rfl (Or.inl rfl) (pe_op op_mod (pe_dget hu (pv 0) pe_str (fun _ _ => rfl)) (pv 1)))
        (pss_cons (ps_dput hu (pv 0) pe_str (pe_op op_fdiv (pe_dget hu (pv 0) pe_str (fun _ _ => rfl)) (pv 1)) rfl)
        (pss_one (ps_ret (pv 2))))) pss_nil)
      (pss_cons (ps_set (i := 3) nd rfl (Or.inl rfl) (pe_dget hu (pv 0) pe_str (fun _ _ => rfl)))
      (pss_cons (ps_dput hu (pv 0) pe_str (pe_op op_add (pv 3) pe_int) rfl)
      (pss_cons (ps_set (i := 4) nd rfl (Or.inl rfl) pe_int)
      (pss_cons (ps_if (pt_cmpR (op_neD hr.units) (pe_dget hu (pv 0) pe_str (fun _ _ => rfl)) (pe_lst pa_nil) (nomark _))
        (pss_one (ps_set (i := 4) nd rfl (Or.inl rfl) (pe_ix ix_list (pe_dget hu (pv 0) pe_str (fun _ _ => rfl)) (pe_op op_mod (pv 3) (pe_callB call_len_seq (by rfl) mLen PySem.boot_len (pa_cons (pe_dget hu (pv 0) pe_str (fun _ _ => rfl)) pa_nil))) (fun _ _ => rfl)))) pss_nil)
      (pss_cons (ps_if (PW.pt (pw_and (pt_cmpR op_lt (pv 3) (pe_callB call_len_seq (by rfl) mLen PySem.boot_len (pa_cons (pe_dget hu (pv 0) pe_str (fun _ _ => rfl)) pa_nil)) (nomark _))
          (pw_and1 (pt_cmpR op_ge (pv 4) (pe_op op_pow pe_int pe_int) (nomark _)))))
        (pss_cons (ps_dput hu (pv 0) pe_str (pe_op op_fdiv (pe_op op_sub (pv 4) (pe_op op_pow pe_int pe_int)) (pv 1)) rfl)
        (pss_one (ps_ret (pe_op op_mod (pe_op op_sub (pv 4) (pe_op op_pow pe_int pe_int)) (pv 1))))) pss_nil)
      (pss_cons (ps_set (i := 5) nd rfl (Or.inl rfl) (pe_op op_mod (pe_op op_add (pe_op op_add (pe_op op_add (pe_op op_mul (pe_op op_mod (pv 4) pe_int) pe_int) (pe_op op_mul (pe_op op_mul pe_int (pv 3)) (pv 3))) (pe_op op_mul pe_int (pv 3))) pe_int) pe_int))
      (pss_cons (ps_set (i := 5) nd rfl (Or.inl rfl) (pe_op op_mod (pe_op op_add (pe_op op_add (pe_op op_mul (pv 5) (pv 5)) (pe_op op_mul pe_int (pv 5))) pe_int) pe_int))
      (pss_one (ps_ret (pe_op op_mod (pe_op op_fdiv (pv 5) pe_int) (pv 1))))))))))), ?_⟩
    refine ⟨_, rfl, d, _, rfl, p.gL, _, _, rfl, rfl, _, rfl, ite2 (fun c => ?_) (fun c => ?_)⟩
    · refine ⟨_, rfl, d, _, rfl, p.gL, _, rfl, _, _, rfl, rfl, hm0, ?_⟩
      refine ⟨_, rfl, d, _, rfl, p.gL, _, rfl, _, _, rfl, rfl, ⟨hm0, hm1⟩, _, rfl, d, _, rfl, p.pL _, ?_⟩
      refine ⟨_, rfl, ?_⟩
      exact k _ n _ _ (Int.emod_nonneg _ (by omega)) (Int.emod_lt_of_pos _ hm0) (Int.le_refl _) (by omega) (p.upd' p.n0 (Int.ediv_nonneg p.l0 (by omega))) fun c o e nc => by
        rw [upd_ne nc]; exact e
    · refine ⟨_, rfl, d, _, rfl, p.gA, ?_⟩
      refine ⟨_, rfl, _, _, rfl, rfl, _, rfl, d, _, rfl, p.pA _, ?_⟩
      have p1 : Pen (upd H d (.dK (pen l (n + 1) L))) d l ms (n + 1) L := p.upd' (by have := p.n0; omega) p.l0
      have pw : ((10 : Int).natAbs < 2 ^ 64) := by decide
      refine ⟨_, rfl, d, _, rfl, p1.gC, Nat.zero_le _, fun q hq => ?_⟩
      have p2 : Pen (upd (upd H d (.dK (pen l (n + 1) L))) q (.lst [])) d l ms (n + 1) L :=
        ⟨by rw [upd_ne (ne_of_none p1.dc hq)]; exact p1.dc, by rw [upd_ne (ne_of_none p1.ls hq)]; exact p1.ls, p1.n0, p1.l0⟩
      have keep : ∀ c o, H c = some o → c ≠ d → (upd (upd H d (.dK (pen l (n + 1) L))) q (.lst [])) c = some o := fun c o e nc => by
        have e1 : (upd H d (.dK (pen l (n + 1) L))) c = some o := by rw [upd_ne nc]; exact e
        rw [upd_ne (ne_of_none e1 hq)]
        exact e1
      refine ⟨.list (ms.map PyData.int), .list [], .lst (SqL.of p2.ls) (dp_ints ms), .lst (SqL.of upd_same) .nil, shaped_ints ms, by decide, _, rfl, ite2 (fun c1 => ?_) (fun c1 => ?_)⟩
      · rw [eq_nil] at c1
        have hne : ms ≠ [] := fun z => by
          rw [z] at c1; cases c1
        have hlen : 0 < ms.length := List.length_pos_iff.mpr hne
        have hlen' : (0 : Int) < ((ms.map V.int).length : Int) := by rw [List.length_map]; omega
        have hlt : (n % ((ms.map V.int).length : Int)).toNat < ms.length := by
          have h1 := Int.emod_nonneg n (b := ((ms.map V.int).length : Int)) (by omega)
          have h2 := Int.emod_lt_of_pos n hlen'
          rw [List.length_map] at h1 h2 ⊢
          omega
        have hat : atI (ms.map V.int) (n % ((ms.map V.int).length : Int)) = some (V.int (ms[(n % ((ms.map V.int).length : Int)).toNat]'hlt)) := by
          have h1 := Int.emod_nonneg n (b := ((ms.map V.int).length : Int)) (by omega)
          have h2 : (ms.map V.int)[(n % ((ms.map V.int).length : Int)).toNat]? = some (V.int (ms[(n % ((ms.map V.int).length : Int)).toNat]'hlt)) := by
            rw [List.getElem?_map, List.getElem?_eq_getElem hlt]; rfl
          have h3 := atI_nat h2
          rw [Int.toNat_of_nonneg h1] at h3
          exact h3
        refine ⟨_, rfl, d, _, rfl, p2.gC, _, rfl, _, rfl, d, _, rfl, p2.gC, l, _, rfl, .inl (SqL.of p2.ls), _, _, rfl, rfl, hlen', l, _, _, _, rfl, rfl, SqL.of p2.ls, hat, ?_⟩
        refine ⟨_, rfl, _, rfl, d, _, rfl, p2.gC, l, _, rfl, .inl (SqL.of p2.ls), _, _, rfl, rfl, _, rfl, ite2 (fun c2 => ?_) (fun c2 => ?_)⟩
        · refine ⟨_, rfl, _, _, rfl, rfl, ⟨by decide, by decide, pw⟩, _, _, rfl, rfl, _, rfl, ite2 (fun c3 => ?_) (fun c3 => ?_)⟩
          · have hz := of_decide_eq_true c3
            refine ⟨_, rfl, _, _, rfl, rfl, ⟨by decide, by decide, pw⟩, _, _, rfl, rfl, _, rfl, _, _, rfl, rfl, ⟨hm0, hm1⟩, _, rfl, d, _, rfl, p2.pL _, ?_⟩
            refine ⟨_, rfl, _, _, rfl, rfl, ⟨by decide, by decide, pw⟩, _, _, rfl, rfl, _, rfl, _, _, rfl, rfl, hm0, ?_⟩
            exact k _ (n + 1) _ _ (Int.emod_nonneg _ (by omega)) (Int.emod_lt_of_pos _ hm0) (by omega) (Int.le_refl _) (p2.upd' p2.n0 (Int.ediv_nonneg (by omega) (by omega))) fun c o e nc => by
              rw [upd_ne nc]; exact keep c o e nc
          · skip
            refine ⟨_, rfl, _, _, rfl, rfl, (by show (0 : Int) < 2147483549; decide), _, _, rfl, rfl, .inr ⟨by decide, by decide⟩, _, rfl, _, _, rfl, rfl, .inl ⟨by decide, by decide⟩, _, rfl, _, _, rfl, rfl, .inr ⟨by have := p.n0; omega, by omega⟩, _, _, rfl, rfl, _, rfl, _, _, rfl, rfl, .inl ⟨by decide, by decide⟩, _, _, rfl, rfl, _, _, rfl, rfl, _, _, rfl, rfl, (by show (0 : Int) < 2147483647; decide), ?_⟩
            refine ⟨_, rfl, _, rfl, _, _, rfl, rfl, .inl ⟨Int.lt_of_lt_of_le (by decide) (Int.emod_nonneg _ (by decide)), Int.lt_trans (Int.emod_lt_of_pos _ (by decide)) (by decide)⟩, _, rfl, _, _, rfl, rfl, .inl ⟨by decide, by decide⟩, _, _, rfl, rfl, _, _, rfl, rfl, _, _, rfl, rfl, (by show (0 : Int) < 2147483629; decide), ?_⟩
            refine ⟨_, rfl, _, _, rfl, rfl, ⟨by decide, by decide⟩, _, rfl, _, _, rfl, rfl, hm0, ?_⟩
            exact k _ (n + 1) L _ (Int.emod_nonneg _ (by omega)) (Int.emod_lt_of_pos _ hm0) (by omega) (Int.le_refl _) p2 keep
        · skip
          refine ⟨_, rfl, _, _, rfl, rfl, (by show (0 : Int) < 2147483549; decide), _, _, rfl, rfl, .inr ⟨by decide, by decide⟩, _, rfl, _, _, rfl, rfl, .inl ⟨by decide, by decide⟩, _, rfl, _, _, rfl, rfl, .inr ⟨by have := p.n0; omega, by omega⟩, _, _, rfl, rfl, _, rfl, _, _, rfl, rfl, .inl ⟨by decide, by decide⟩, _, _, rfl, rfl, _, _, rfl, rfl, _, _, rfl, rfl, (by show (0 : Int) < 2147483647; decide), ?_⟩
          refine ⟨_, rfl, _, rfl, _, _, rfl, rfl, .inl ⟨Int.lt_of_lt_of_le (by decide) (Int.emod_nonneg _ (by decide)), Int.lt_trans (Int.emod_lt_of_pos _ (by decide)) (by decide)⟩, _, rfl, _, _, rfl, rfl, .inl ⟨by decide, by decide⟩, _, _, rfl, rfl, _, _, rfl, rfl, _, _, rfl, rfl, (by show (0 : Int) < 2147483629; decide), ?_⟩
          refine ⟨_, rfl, _, _, rfl, rfl, ⟨by decide, by decide⟩, _, rfl, _, _, rfl, rfl, hm0, ?_⟩
          exact k _ (n + 1) L _ (Int.emod_nonneg _ (by omega)) (Int.emod_lt_of_pos _ hm0) (by omega) (Int.le_refl _) p2 keep
      · skip
        refine ⟨_, rfl, _, rfl, d, _, rfl, p2.gC, l, _, rfl, .inl (SqL.of p2.ls), _, _, rfl, rfl, _, rfl, ite2 (fun c2 => ?_) (fun c2 => ?_)⟩
        · refine ⟨_, rfl, _, _, rfl, rfl, ⟨by decide, by decide, pw⟩, _, _, rfl, rfl, _, rfl, ite2 (fun c3 => ?_) (fun c3 => ?_)⟩
          · have hz := of_decide_eq_true c3
            refine ⟨_, rfl, _, _, rfl, rfl, ⟨by decide, by decide, pw⟩, _, _, rfl, rfl, _, rfl, _, _, rfl, rfl, ⟨hm0, hm1⟩, _, rfl, d, _, rfl, p2.pL _, ?_⟩
            refine ⟨_, rfl, _, _, rfl, rfl, ⟨by decide, by decide, pw⟩, _, _, rfl, rfl, _, rfl, _, _, rfl, rfl, hm0, ?_⟩
            exact k _ (n + 1) _ _ (Int.emod_nonneg _ (by omega)) (Int.emod_lt_of_pos _ hm0) (by omega) (Int.le_refl _) (p2.upd' p2.n0 (Int.ediv_nonneg (by omega) (by omega))) fun c o e nc => by
              rw [upd_ne nc]; exact keep c o e nc
          · skip
            refine ⟨_, rfl, _, _, rfl, rfl, (by show (0 : Int) < 2147483549; decide), _, _, rfl, rfl, .inr ⟨by decide, by decide⟩, _, rfl, _, _, rfl, rfl, .inl ⟨by decide, by decide⟩, _, rfl, _, _, rfl, rfl, .inr ⟨by have := p.n0; omega, by omega⟩, _, _, rfl, rfl, _, rfl, _, _, rfl, rfl, .inl ⟨by decide, by decide⟩, _, _, rfl, rfl, _, _, rfl, rfl, _, _, rfl, rfl, (by show (0 : Int) < 2147483647; decide), ?_⟩
            refine ⟨_, rfl, _, rfl, _, _, rfl, rfl, .inl ⟨Int.lt_of_lt_of_le (by decide) (Int.emod_nonneg _ (by decide)), Int.lt_trans (Int.emod_lt_of_pos _ (by decide)) (by decide)⟩, _, rfl, _, _, rfl, rfl, .inl ⟨by decide, by decide⟩, _, _, rfl, rfl, _, _, rfl, rfl, _, _, rfl, rfl, (by show (0 : Int) < 2147483629; decide), ?_⟩
            refine ⟨_, rfl, _, _, rfl, rfl, ⟨by decide, by decide⟩, _, rfl, _, _, rfl, rfl, hm0, ?_⟩
            exact k _ (n + 1) L _ (Int.emod_nonneg _ (by omega)) (Int.emod_lt_of_pos _ hm0) (by omega) (Int.le_refl _) p2 keep
        · skip
          refine ⟨_, rfl, _, _, rfl, rfl, (by show (0 : Int) < 2147483549; decide), _, _, rfl, rfl, .inr ⟨by decide, by decide⟩, _, rfl, _, _, rfl, rfl, .inl ⟨by decide, by decide⟩, _, rfl, _, _, rfl, rfl, .inr ⟨by have := p.n0; omega, by omega⟩, _, _, rfl, rfl, _, rfl, _, _, rfl, rfl, .inl ⟨by decide, by decide⟩, _, _, rfl, rfl, _, _, rfl, rfl, _, _, rfl, rfl, (by show (0 : Int) < 2147483647; decide), ?_⟩
          refine ⟨_, rfl, _, rfl, _, _, rfl, rfl, .inl ⟨Int.lt_of_lt_of_le (by decide) (Int.emod_nonneg _ (by decide)), Int.lt_trans (Int.emod_lt_of_pos _ (by decide)) (by decide)⟩, _, rfl, _, _, rfl, rfl, .inl ⟨by decide, by decide⟩, _, _, rfl, rfl, _, _, rfl, rfl, _, _, rfl, rfl, (by show (0 : Int) < 2147483629; decide), ?_⟩
          refine ⟨_, rfl, _, _, rfl, rfl, ⟨by decide, by decide⟩, _, rfl, _, _, rfl, rfl, hm0, ?_⟩
          exact k _ (n + 1) L _ (Int.emod_nonneg _ (by omega)) (Int.emod_lt_of_pos _ hm0) (by omega) (Int.le_refl _) p2 keep
end
end My

set_option Elab.async false
set_option linter.all false
set_option maxRecDepth 100000
set_option maxHeartbeats 4000000
namespace My
open PySem L2
/-! ### isinstance of a tree -/
def tyN : PyData → String
  | .none => "NoneType" | .bool _ => "bool" | .int _ => "int" | .str _ => "str" | .list _ => "list" | .tuple _ => "tuple" | .dict _ => "dict"
def isStr : PyData → Bool
  | .str _ => true | _ => false
def isInt : PyData → Bool
  | .int _ => true | .bool _ => true | _ => false
def isBool : PyData → Bool
  | .bool _ => true | _ => false
def isTup : PyData → Bool
  | .tuple _ => true | _ => false
def isNon : PyData → Bool
  | .none => true | _ => false
def isTy (T : String) (d : PyData) : Bool := if T = "str" then isStr d else if T = "int" then isInt d else if T = "bool" then isBool d else isTup d
section
variable {P : Program} {w : World} {K : PySem.W.Frag} {mg : Str → Option Value} {pB : Heap}
theorem base_ty {H : Hp} {T : V → List PyData → Prop} {v : V} {d : PyData} (ht : ∀ ds, T v ds → ∃ a xs, v = .ref a ∧ H a = some (.tup xs)) (h : base H T v d) : TyX K H v (.type (tyN d)) := by
  cases d with
  | none => rw [show v = .non from h]; exact .base .non
  | bool b => rw [show v = .bl b from h]; exact .base (.bl b)
  | int i => rw [show v = .int i from h]; exact .base (.int i)
  | str x => rw [show v = .str x from h]; exact .base (.str x)
  | list l =>
    obtain ⟨a, xs, rfl, e⟩ := h
    exact .base (.lst e)
  | dict l =>
    obtain ⟨a, rfl, e⟩ := h
    exact .base (.dK e)
  | tuple ds =>
    obtain ⟨a, xs, rfl, e⟩ := ht ds h
    exact .base (.tup e)
theorem Rep.ty {H : Hp} {m : Nat} {v : V} {d : PyData} (h : Rep H m v d) : TyX K H v (.type (tyN d)) := by
  cases m with
  | zero => exact base_ty (fun _ z => z.elim) h
  | succ m => exact base_ty (fun ds ⟨a, xs, e, q, _⟩ => ⟨a, xs, e, q⟩) h
theorem kit_T {T : String} (hT : T = "str" ∨ T = "int" ∨ T = "bool" ∨ T = "tuple") (d : PyData) : kitB (tyN d) T = some (isTy T d) := by
  rcases hT with rfl | rfl | rfl | rfl <;> cases d <;> kernel_rfl
theorem rd_isi {σ : L2.St} {H : Hp} {Q : VK} {i m : Nat} {T : String} {v : V} {d : PyData} (hT : T = "str" ∨ T = "int" ∨ T = "bool" ∨ T = "tuple") (hσ : σ[i]? = some (some v)) (r : Rep H m v d) (h : Q (.bl (isTy T d)) H) :
    tCB (rIsi K) (tCons (tVar i) (tCons (tC (.ty T)) tNil)) σ H Q :=
  ⟨_, hσ, v, .ty T, .type (tyN d), .type T, _, rfl, .ty T, r.ty, kit_ty (kit_T hT d), h⟩
theorem rep_str {H : Hp} {m : Nat} {v : V} {x : Str} (h : Rep H m v (.str x)) : v = .str x := by
  cases m <;> exact h
theorem rep_int {H : Hp} {m : Nat} {v : V} {i : Int} (h : Rep H m v (.int i)) : v = .int i := by
  cases m <;> exact h
theorem rep_none {H : Hp} {m : Nat} {v : V} (h : Rep H m v .none) : v = .non := by
  cases m <;> exact h
theorem rep_tup {H : Hp} {m : Nat} {v : V} {ds : List PyData} (h : Rep H m v (.tuple ds)) : ∃ k a xs, m = k + 1 ∧ v = .ref a ∧ H a = some (.tup xs) ∧ Paired (Rep H k) xs ds := by
  cases m with
  | zero => exact (show False from h).elim
  | succ k =>
    obtain ⟨a, xs, e, q, p⟩ := (show ∃ a xs, v = .ref a ∧ H a = some (.tup xs) ∧ Paired (Rep H k) xs ds from h)
    exact ⟨k, a, xs, rfl, e, q, p⟩
theorem rep_nonn {H : Hp} {m : Nat} {v : V} {d : PyData} (h : Rep H m v d) : decide (v = .non) = isNon d := by
  have key : ∀ T : V → List PyData → Prop, (∀ ds, T v ds → v ≠ .non) → base H T v d → decide (v = .non) = isNon d := by
    intro T ht hb
    cases d with
    | none => rw [show v = .non from hb]; rfl
    | bool b => rw [show v = .bl b from hb]; rfl
    | int i => rw [show v = .int i from hb]; rfl
    | str x => rw [show v = .str x from hb]; rfl
    | list l =>
      obtain ⟨a, xs, rfl, e⟩ := hb
      rfl
    | dict l =>
      obtain ⟨a, rfl, e⟩ := hb
      rfl
    | tuple ds =>
      have := ht ds hb
      rw [decide_eq_false this]; rfl
  cases m with
  | zero => exact key _ (fun _ z => z.elim) h
  | succ m => exact key _ (fun ds ⟨a, xs, e, _⟩ => by rw [e]; intro z; cases z) h
theorem yes_of {σ : L2.St} {H : Hp} {Q : Bool → Hp → Prop} (h : Q true H) : tYes σ H Q := h
/-! ### is_word -/
def wdD : PyData → Bool
  | .str x => isWd x
  | _ => false
def spIsWord : Sp := fun vs H Q _ => ∃ (m : Nat) (v : V) (d : PyData), vs = [v] ∧ Rep H m v d ∧ szD d ≤ 1000000 ∧ ∀ H', Same H H' → Q (.bl (wdD d)) H'
abbrev sIsWord : Stmt := top 17
theorem scIsWord : FnScope ["thing"] ["thing"] (defScope sIsWord) := ⟨rfl, rfl, rfl, by decide +kernel, rfl, by decide +kernel, by decide +kernel⟩
theorem take_snoc {α : Type} {l : List α} {i : Nat} {a : α} (h : l[i]? = some a) : l.take (i + 1) = l.take i ++ [a] := by
  rw [List.take_succ, h]; rfl
theorem sign_let : ∀ c, c < 128 → (Unicode.isAlpha c && !(Unicode.isUpper c || Unicode.isTitle c)) = decide (c ∈ letters) := by decide +kernel
theorem let_sign : ∀ c ∈ letters, c < 128 ∧ Unicode.isAlpha c = true ∧ Unicode.isLower c = true ∧ (Unicode.isUpper c || Unicode.isTitle c) = false := by decide +kernel
/-- letters, small, of the first 128 signs: a word's signs -/
theorem wd_of (x : Str) (h8 : x.length ≤ 8) : (Txt.isalpha x && (Txt.islower x && Txt.isascii x)) = isWd x := by
  have e0 : x.length = x.cps.toList.length := rfl
  unfold Txt.isalpha Txt.islower Txt.isascii isWd
  rw [← Array.all_toList, ← Array.all_toList, ← Array.any_toList, ← Array.any_toList, e0]
  rw [e0] at h8
  generalize x.cps.toList = l at h8
  rw [Bool.eq_iff_iff]
  simp only [Bool.and_eq_true, decide_eq_true_eq, List.all_eq_true, List.any_eq_true, Bool.not_eq_true', List.any_eq_false, Bool.or_eq_true]
  constructor
  · rintro ⟨⟨h0, ha⟩, ⟨_, hu⟩, hs⟩
    refine ⟨⟨h0, h8⟩, fun c hc => ?_⟩
    have h1 := sign_let c (hs c hc)
    have h2 : (Unicode.isUpper c || Unicode.isTitle c) = false := by
      have := hu c hc
      cases h : (Unicode.isUpper c || Unicode.isTitle c)
      · rfl
      · exact absurd ((Bool.or_eq_true _ _).mp h) this
    rw [ha c hc, h2] at h1
    exact of_decide_eq_true h1.symm
  · rintro ⟨⟨h0, _⟩, hl⟩
    have q := fun c hc => let_sign c (hl c hc)
    refine ⟨⟨h0, fun c hc => (q c hc).2.1⟩, ⟨?_, fun c hc z => ?_⟩, fun c hc => (q c hc).1⟩
    · match l, h0, q with
      | c :: r, _, q => exact ⟨c, List.mem_cons_self .., (q c (List.mem_cons_self ..)).2.2.1⟩
    · have := (q c hc).2.2.2
      rw [(Bool.or_eq_true _ _).mpr z] at this
      cases this
theorem ok_isword {f : Addr} {fd : FuncData} {tk : Tok} (F : Fun K "is_word" "is_word" sIsWord f fd) (mI : mg "isinstance" = none) (mS : mg "str" = none) (mLen : mg "len" = none)
    (mM : mg "MOST_LETTERS" = some (.int 8 tk)) : FnOk P w K mg pB CX0 1 f fd ["thing"] spIsWord := by
  refine F.ok scIsWord (fun vs H Q E h => ?_) (fun cdv A outer s H vs Q E hr h => ?_)
  · obtain ⟨m, v, d, rfl, _⟩ := h
    rfl
  · obtain ⟨m, v, d, rfl, hR, hz, k⟩ := h
    have nd := scIsWord.nd
    refine ⟨_, pss_cons (ps_if (PW.pt (pw_or (pt_not (pt_val (pe_callB call_isi (by rfl) mI (by decide +kernel) (pa_cons (pv 0) (pa_cons (pe_bltn (by rfl) mS (by decide +kernel) (show RelV (.ty "str") (.type "str") from rfl)) pa_nil)))))
        (pw_or1 (pt_cmpR op_gt (pe_callB call_len_str (by rfl) mLen PySem.boot_len (pa_cons (pv 0) pa_nil)) (pe_glob (by rfl) mM (show RelV (.int 8) _ from ⟨_, rfl⟩)) (nomark _))))) (pss_one (ps_ret pe_bl)) pss_nil)
      (pss_one (ps_ret (pe_and (pe_bm0 PySem.F.plainAttrs_str PySem.F.slot_str_isalpha PySem.F.type_str_isalpha mt_isalpha (pv 0))
        (pe_and (pe_bm0 PySem.F.plainAttrs_str PySem.F.slot_str_islower PySem.F.type_str_islower mt_islower (pv 0))
          (pe_one (pe_bm0 PySem.F.plainAttrs_str PySem.F.slot_str_isascii PySem.F.type_str_isascii mt_isascii (pv 0))))))), ?_⟩
    refine rd_isi (.inl rfl) rfl hR ⟨_, rfl, ?_⟩
    cases hd : isStr d with
    | false =>
      refine iteB1 (by rw [show isTy "str" d = isStr d from rfl, hd]; rfl) (iteT ?_)
      have e : wdD d = false := by cases d <;> first | rfl | exact absurd hd (by simp [isStr])
      have := k H (Same.refl _)
      rw [e] at this
      exact this
    | true =>
      obtain ⟨x, rfl⟩ : ∃ x, d = .str x := by
        cases d <;> first | exact ⟨_, rfl⟩ | exact absurd hd (by simp [isStr])
      cases rep_str hR
      have hx : x.length ≤ sizeLine := by
        rw [sizeLine_eq]
        rw [szD] at hz
        omega
      refine iteB0 rfl ?_
      refine ⟨_, rfl, x, rfl, hx, _, _, rfl, rfl, _, rfl, ?_⟩
      have kk := k H (Same.refl _)
      by_cases h8 : x.length ≤ 8
      · refine iteN (by show ¬ ((8 : Int) < (x.length : Int)); omega) ?_
        have e : wdD (.str x) = (Txt.isalpha x && (Txt.islower x && Txt.isascii x)) := (wd_of x h8).symm
        rw [e] at kk
        refine ⟨_, rfl, rfl, x, rfl, rfl, trivial, _, rfl, ?_⟩
        cases h1 : Txt.isalpha x with
        | false => rw [h1] at kk; exact iteF kk
        | true =>
          rw [h1] at kk
          refine iteT ⟨_, rfl, rfl, x, rfl, rfl, trivial, _, rfl, ?_⟩
          cases h2 : Txt.islower x with
          | false => rw [h2] at kk; exact iteF kk
          | true =>
            rw [h2] at kk
            exact iteT ⟨_, rfl, rfl, x, rfl, rfl, trivial, kk⟩
      · refine iteY (by show (8 : Int) < (x.length : Int); omega) ?_
        have e : wdD (.str x) = false := by
          show isWd x = false
          unfold isWd
          rw [decide_eq_false (by omega)]; rfl
        rw [e] at kk
        exact kk
end
end My

set_option Elab.async false
set_option linter.all false
set_option maxRecDepth 100000
set_option maxHeartbeats 4000000
namespace My
open PySem L2
section
variable {P : Program} {w : World} {K : PySem.W.Frag} {mg : Str → Option Value} {pB : Heap}
/-! ### the law's own is_word -/
abbrev sLWord : Stmt := top 55
theorem scLWord : FnScope ["_law_thing", "_law_sign"] ["_law_thing"] (defScope sLWord) := ⟨rfl, rfl, rfl, by decide +kernel, rfl, by decide +kernel, by decide +kernel⟩
theorem none_out (l : List Nat) : ((l.filter fun c => !decide (c ∈ letters)).map fun c => V.str ⟨#[c]⟩).isEmpty = l.all fun c => decide (c ∈ letters) := by
  induction l with
  | nil => rfl
  | cons c l ih =>
    by_cases h : c ∈ letters
    · rw [List.filter_cons_of_neg (by simp [h]), List.all_cons, ih]; simp [h]
    · rw [List.filter_cons_of_pos (by simp [h])]; simp [h]
theorem ok_lword {f : Addr} {fd : FuncData} (F : Fun K "_law_is_word" "_law_is_word" sLWord f fd) (mI : mg "isinstance" = none) (mS : mg "str" = none) (mLen : mg "len" = none) : FnOk P w K mg pB CX0 1 f fd ["_law_thing"] spIsWord := by
  refine F.ok scLWord (fun vs H Q E h => ?_) (fun cdv A outer s H vs Q E hr h => ?_)
  · obtain ⟨m, v, d, rfl, _⟩ := h
    rfl
  · obtain ⟨m, v, d, rfl, hR, hz, k⟩ := h
    have nd := scLWord.nd
    refine ⟨_, pss_cons (ps_if (PW.pt (pw_or (pt_not (pt_val (pe_callB call_isi (by rfl) mI (by decide +kernel) (pa_cons (pv 0) (pa_cons (pe_bltn (by rfl) mS (by decide +kernel) (show RelV (.ty "str") (.type "str") from rfl)) pa_nil)))))
        (pw_or1 (pt_not (pt_chain op_le op_le pe_int (pe_callB call_len_str (by rfl) mLen PySem.boot_len (pa_cons (pv 0) pa_nil)) pe_int))))) (pss_one (ps_ret pe_bl)) pss_nil)
      (pss_one (ps_ret (pe_cmpR (op_eqL0 hr.units)
        (pe_lc (own := [("_law_sign", 1)]) (g := gName 1) (tt := tTest (tOp (fun x y H Q => ∃ (c : Nat) (z : Str), x = .str ⟨#[c]⟩ ∧ y = .str z ∧ Q (.bl (!decide (c ∈ z.cps.toList))) H) (tVar 1) (tC (.str "abcdefghijklmnopqrstuvwxyz")))) (te := tVar 1) rfl nd (pi_str (pv 0))
          (blkOk_by (N := ["_law_thing", "_law_sign"]) (sc := defScope sLWord) (by decide +kernel)) (fun _ _ _ _ _ => pg_name (i := 1) nd rfl (Or.inl rfl) (Or.inr rfl)) (fun _ _ _ _ _ => pts_one (pt_cmpR op_notIn_sign (pv 1) pe_str rfl))
          (fun _ _ _ _ _ => pv 1)) (pe_lst pa_nil) (nomark _)))), ?_⟩
    refine rd_isi (.inl rfl) rfl hR ⟨_, rfl, ?_⟩
    cases hd : isStr d with
    | false =>
      refine iteB1 (by rw [show isTy "str" d = isStr d from rfl, hd]; rfl) (iteT ?_)
      have e : wdD d = false := by cases d <;> first | rfl | exact absurd hd (by simp [isStr])
      have := k H (Same.refl _)
      rw [e] at this
      exact this
    | true =>
      obtain ⟨x, rfl⟩ : ∃ x, d = .str x := by
        cases d <;> first | exact ⟨_, rfl⟩ | exact absurd hd (by simp [isStr])
      cases rep_str hR
      have hx : x.length ≤ sizeLine := by
        rw [sizeLine_eq]
        rw [szD] at hz
        omega
      refine iteB0 rfl ?_
      refine ⟨_, rfl, x, rfl, hx, _, _, rfl, rfl, _, rfl, ite2 (fun c1 => ?_) (fun c1 => ?_)⟩
      · refine ⟨_, _, rfl, rfl, _, rfl, ?_⟩
        by_cases h8 : (x.length : Int) ≤ 8
        · refine iteB0 (by rw [decide_eq_true h8]; rfl) ?_
          refine ⟨_, rfl, x, rfl, fun D hD => ?_⟩
          refine lc_str (fun i H' => Same H H' ∧ H' D = some (.lst ((((TL.tl x).take i).filter fun c => !decide (c ∈ letters)).map fun c => V.str ⟨#[c]⟩))) ⟨Same.new (Same.refl _) hD, upd_same⟩ (fun i c H' hc p => ?_) (fun H' p => ?_)
          · obtain ⟨p1, p2⟩ := p
            have hc' : (TL.tl x)[i]? = some c := by
              rw [← hc]; exact Array.getElem?_toList
            refine ⟨rfl, _, rfl, c, _, rfl, rfl, _, rfl, ?_⟩
            by_cases hin : c ∈ letters
            · refine iteB0 (by rw [show decide (c ∈ (Str.ofString "abcdefghijklmnopqrstuvwxyz").cps.toList) = true from decide_eq_true hin]; rfl) ⟨p1, ?_⟩
              rw [p2, take_snoc hc', List.filter_append, List.filter_cons_of_neg (by simp [hin])]
              simp
            · refine iteB1 (by rw [show decide (c ∈ (Str.ofString "abcdefghijklmnopqrstuvwxyz").cps.toList) = false from decide_eq_false hin]; rfl) ⟨_, rfl, _, p2, ?_, ?_⟩
              · rw [List.length_map]
                refine Nat.lt_of_le_of_lt (Nat.le_trans (List.length_filter_le _ _) (List.length_take_le' _ _)) ?_
                rw [← TL.len_tl]
                exact Nat.lt_of_le_of_lt (show x.length ≤ 8 by omega) (by decide)
              · refine ⟨fun b o e => ?_, ?_⟩
                · rw [upd_ne (ne_of_none e hD)]; exact p1 b o e
                · rw [upd_same, take_snoc hc', List.filter_append, List.filter_cons_of_pos (by simp [hin]), List.map_append]; rfl
          · obtain ⟨p1, p2⟩ := p
            have e1 : ((TL.tl x).take x.cps.size) = TL.tl x := List.take_of_length_le (by simp [TL.tl])
            rw [e1] at p2
            refine ⟨by show 0 ≤ sizeLine; decide, fun q hq => ?_⟩
            have s2 : Same H' (upd H' q (.lst [])) := Same.new (Same.refl _) hq
            refine ⟨D, q, _, rfl, rfl, SqL.of (s2 _ _ p2), SqL.of upd_same, ?_⟩
            rw [none_out]
            have e2 : wdD (.str x) = (TL.tl x).all fun c => decide (c ∈ letters) := by
              show isWd x = _
              unfold isWd
              rw [decide_eq_true ⟨by have := of_decide_eq_true c1; omega, by omega⟩]
              rfl
            have := k _ (p1.trans s2)
            rw [e2] at this
            exact this
        · refine iteB1 (by rw [decide_eq_false h8]; rfl) ?_
          have e : wdD (.str x) = false := by
            show isWd x = false
            unfold isWd
            rw [decide_eq_false (by omega)]; rfl
          have := k H (Same.refl _)
          rw [e] at this
          exact this
      · refine ⟨_, rfl, iteB1 rfl ?_⟩
        have e : wdD (.str x) = false := by
          show isWd x = false
          unfold isWd
          rw [decide_eq_false (fun z => c1 (decide_eq_true (by omega)))]; rfl
        have := k H (Same.refl _)
        rw [e] at this
        exact this
/-! ### numbers between two ends -/
def btw (lo hi : Int) : PyData → Bool
  | .int i => decide (lo ≤ i) && decide (i ≤ hi)
  | _ => false
def spBtw : Sp := fun vs H Q _ => ∃ (m : Nat) (v : V) (d : PyData) (lo hi : Int), vs = [v, .int lo, .int hi] ∧ Rep H m v d ∧ Q (.bl (btw lo hi d)) H

abbrev sBtw : Stmt := top 18
theorem sc_between : FnScope ["thing", "least", "most"] ["thing", "least", "most"] (defScope sBtw) := ⟨rfl, rfl, rfl, by decide +kernel, rfl, by decide +kernel, by decide +kernel⟩
theorem ok_between {f : Addr} {fd : FuncData} (F : Fun K "is_between" "is_between" sBtw f fd) (mI : mg "isinstance" = none) (mint : mg "int" = none) (mbool : mg "bool" = none) : FnOk P w K mg pB CX0 1 f fd ["thing", "least", "most"] spBtw := by
  refine F.ok sc_between (fun vs H Q E h => ?_) (fun cdv A outer s H vs Q E hr h => ?_)
  · obtain ⟨m, v, d, lo, hi, rfl, _⟩ := h
    rfl
  · obtain ⟨m, v, d, lo, hi, rfl, hR, k⟩ := h
    refine ⟨_, pss_one (ps_ret (pe_and (pe_callB call_isi (by rfl) mI (by decide +kernel) (pa_cons (pv 0) (pa_cons (pe_bltn (by rfl) mint (by decide +kernel) (show RelV (.ty "int") (.type "int") from rfl)) pa_nil))) (pe_and (pe_not (pe_callB call_isi (by rfl) mI (by decide +kernel) (pa_cons (pv 0) (pa_cons (pe_bltn (by rfl) mbool (by decide +kernel) (show RelV (.ty "bool") (.type "bool") from rfl)) pa_nil)))) (pe_one (pe_chain op_le op_le (pv 1) (pv 0) (pv 2)))))), ?_⟩
    refine rd_isi (.inr (.inl rfl)) rfl hR ⟨_, rfl, ?_⟩
    cases d with
    | int i =>
      refine iteB1 rfl (rd_isi (.inr (.inr (.inl rfl))) rfl hR ⟨_, rfl, _, rfl, iteB1 rfl ?_⟩)
      cases rep_int hR
      refine ⟨_, rfl, _, rfl, _, _, rfl, rfl, _, rfl, ?_⟩
      by_cases c : lo ≤ i
      · refine iteB1 (decide_eq_true c) ⟨_, rfl, _, _, rfl, rfl, ?_⟩
        have := k
        rw [btw, decide_eq_true c] at this
        exact this
      · refine iteB0 (decide_eq_false c) ?_
        have := k
        rw [btw, decide_eq_false c] at this
        exact this
    | bool b => exact iteB1 rfl (rd_isi (.inr (.inr (.inl rfl))) rfl hR ⟨_, rfl, _, rfl, iteB0 rfl k⟩)
    | none => exact iteB0 rfl k
    | str x => exact iteB0 rfl k
    | list l => exact iteB0 rfl k
    | tuple l => exact iteB0 rfl k
    | dict l => exact iteB0 rfl k
abbrev sFrom : Stmt := top 54
theorem sc_from : FnScope ["_law_thing", "_law_least", "_law_most"] ["_law_thing", "_law_least", "_law_most"] (defScope sFrom) := ⟨rfl, rfl, rfl, by decide +kernel, rfl, by decide +kernel, by decide +kernel⟩
theorem ok_from {f : Addr} {fd : FuncData} (F : Fun K "_law_is_from" "_law_is_from" sFrom f fd) (mI : mg "isinstance" = none) (mint : mg "int" = none) (mbool : mg "bool" = none) : FnOk P w K mg pB CX0 1 f fd ["_law_thing", "_law_least", "_law_most"] spBtw := by
  refine F.ok sc_from (fun vs H Q E h => ?_) (fun cdv A outer s H vs Q E hr h => ?_)
  · obtain ⟨m, v, d, lo, hi, rfl, _⟩ := h
    rfl
  · obtain ⟨m, v, d, lo, hi, rfl, hR, k⟩ := h
    refine ⟨_, pss_one (ps_ret (pe_and (pe_callB call_isi (by rfl) mI (by decide +kernel) (pa_cons (pv 0) (pa_cons (pe_bltn (by rfl) mint (by decide +kernel) (show RelV (.ty "int") (.type "int") from rfl)) pa_nil))) (pe_and (pe_not (pe_callB call_isi (by rfl) mI (by decide +kernel) (pa_cons (pv 0) (pa_cons (pe_bltn (by rfl) mbool (by decide +kernel) (show RelV (.ty "bool") (.type "bool") from rfl)) pa_nil)))) (pe_one (pe_chain op_le op_le (pv 1) (pv 0) (pv 2)))))), ?_⟩
    refine rd_isi (.inr (.inl rfl)) rfl hR ⟨_, rfl, ?_⟩
    cases d with
    | int i =>
      refine iteB1 rfl (rd_isi (.inr (.inr (.inl rfl))) rfl hR ⟨_, rfl, _, rfl, iteB1 rfl ?_⟩)
      cases rep_int hR
      refine ⟨_, rfl, _, rfl, _, _, rfl, rfl, _, rfl, ?_⟩
      by_cases c : lo ≤ i
      · refine iteB1 (decide_eq_true c) ⟨_, rfl, _, _, rfl, rfl, ?_⟩
        have := k
        rw [btw, decide_eq_true c] at this
        exact this
      · refine iteB0 (decide_eq_false c) ?_
        have := k
        rw [btw, decide_eq_false c] at this
        exact this
    | bool b => exact iteB1 rfl (rd_isi (.inr (.inr (.inl rfl))) rfl hR ⟨_, rfl, _, rfl, iteB0 rfl k⟩)
    | none => exact iteB0 rfl k
    | str x => exact iteB0 rfl k
    | list l => exact iteB0 rfl k
    | tuple l => exact iteB0 rfl k
    | dict l => exact iteB0 rfl k
end
end My

set_option Elab.async false
set_option linter.all false
set_option maxRecDepth 100000
set_option maxHeartbeats 4000000
namespace My
open PySem L2
section
variable {P : Program} {w : World} {K : PySem.W.Frag} {mg : Str → Option Value} {pB : Heap}
theorem Paired.at {α β : Type} {F : α → β → Prop} : ∀ {xs : List α} {ys : List β} {i : Nat} {x : α}, Paired F xs ys → xs[i]? = some x → ∃ y, ys[i]? = some y ∧ F x y
  | _, _, _, _, .nil, e => by simp at e
  | _, _, 0, _, .cons r _, e => by
    simp at e
    subst e
    exact ⟨_, rfl, r⟩
  | _, _, i + 1, x, .cons _ t, e => by
    obtain ⟨y, h1, h2⟩ := Paired.at (i := i) (x := x) t (by simpa using e)
    exact ⟨y, by simpa using h1, h2⟩
/-- the promise of no call at all -/
def spBot : Sp := fun _ _ _ _ => False
theorem ok_bot {k : Nat} {f : Addr} {fd : FuncData} {ps : List Str} : FnOk P w K mg pB CX0 k f fd ps spBot := ⟨fun _ _ _ _ h => h.elim, fun _ _ _ _ _ _ _ _ _ _ _ _ _ h => h.elim⟩
def spWth (n : Nat) : Sp := fun vs H Q _ => ∃ (m : Nat) (v : V) (d : PyData), vs = [v, .int (n : Int)] ∧ Rep H m v d ∧ szD d ≤ 1000000 ∧ ∀ H', Same H H' → Q (.bl (isW n d)) H'
def spPrev : Nat → Sp
  | 0 => spBot
  | n + 1 => spWth n
theorem leaf_or {d : PyData} (h : ∀ ds, d ≠ .tuple ds) (n : Nat) : isW n d = (isNon d || (wdD d || btw (-1000000000) 1000000000 d)) := by
  rw [isW_leaf h]
  cases d with
  | tuple ds => exact absurd rfl (h ds)
  | int i =>
    show decide _ = (false || (false || (decide _ && decide _)))
    rw [Bool.false_or, Bool.false_or, Bool.decide_and]
  | str x =>
    show isWd x = (false || (isWd x || false))
    rw [Bool.false_or, Bool.or_false]
  | none => rfl
  | bool b => rfl
  | list l => rfl
  | dict l => rfl
abbrev sWth : Stmt := top 20
theorem scWth : FnScope ["thing", "levels", "part"] ["thing", "levels"] (defScope sWth) := ⟨rfl, rfl, rfl, by decide +kernel, rfl, by decide +kernel, by decide +kernel⟩
theorem step_within {f fW fB : Addr} {fd dW dB : FuncData} {tk tk2 : Tok} (F : Fun K "is_worth_within" "is_worth_within" sWth f fd) (n : Nat) (G : FnOk P w K mg pB CX0 (n + 1) f fd ["thing", "levels"] (spPrev n)) (mG : mg "is_worth_within" = some (.ref f)) (bG : Binds K fd ["thing", "levels"] [])
    (GW : FnOk P w K mg pB CX0 1 fW dW ["thing"] spIsWord) (mW : mg "is_word" = some (.ref fW)) (kW : PySem.W.keepIn K (.ref fW) = true) (bW : Binds K dW ["thing"] [])
    (GB : FnOk P w K mg pB CX0 1 fB dB ["thing", "least", "most"] spBtw) (mB : mg "is_between" = some (.ref fB)) (kB : PySem.W.keepIn K (.ref fB) = true) (bB : Binds K dB ["thing", "least", "most"] [])
    (mI : mg "isinstance" = none) (mT : mg "tuple" = none) (mLen : mg "len" = none) (mAll : mg "all" = none) (mF : mg "FARTHEST" = some (.int 1000000000 tk)) (mM : mg "MOST_WORTHS" = some (.int 20 tk2)) :
    FnOk P w K mg pB CX0 (n + 2) f fd ["thing", "levels"] (spWth n) := by
  refine F.ok scWth (fun vs H Q E h => ?_) (fun cdv A outer s H vs Q E hr h => ?_)
  · obtain ⟨m, v, d, rfl, _⟩ := h
    rfl
  · obtain ⟨m, v, d, rfl, hR, hz, k⟩ := h
    have nd := scWth.nd
    have hr1 : Room 1 _ := hr.mono (by omega)
    have pF : ∀ {X : Cx} {p : Pos}, Gl X "FARTHEST" → X.mg "FARTHEST" = some (.int 1000000000 tk) → PE X (.Name "FARTHEST" p) (tC (.int 1000000000)) := fun hg hm => pe_glob hg hm (show RelV (.int 1000000000) _ from ⟨_, rfl⟩)
    refine ⟨_, pss_cons (ps_if (pt_not (pt_val (pe_callB call_isi (by rfl) mI (by decide +kernel) (pa_cons (pv 0) (pa_cons (pe_bltn (by rfl) mT (by decide +kernel) (show RelV (.ty "tuple") (.type "tuple") from rfl)) pa_nil)))))
        (pss_one (ps_ret (pe_or (pe_cmp (pc_isN (pv 0)) rfl) (pe_or (pe_call GW hr1 rfl mW kW bW .nil pass0 (pa_cons (pv 0) pa_nil))
          (pe_one (pe_call GB hr1 rfl mB kB bB .nil pass0 (pa_cons (pv 0) (pa_cons (pe_un un_neg (pF (by rfl) mF)) (pa_cons (pF (by rfl) mF) pa_nil)))))))))  pss_nil)
      (pss_cons (ps_if (PW.pt (pw_or (pt_cmpR op_eq (pv 1) pe_int (nomark _)) (pw_or1 (pt_cmpR op_gt (pe_callB call_len_seq (by rfl) mLen PySem.boot_len (pa_cons (pv 0) pa_nil)) (pe_glob (by rfl) mM (show RelV (.int 20) _ from ⟨_, rfl⟩)) (nomark _)))))
        (pss_one (ps_ret pe_bl)) pss_nil)
      (pss_one (ps_ret (pe_callB (cr_all rfl) (by rfl) mAll (by decide +kernel) (pa_cons
        (pe_lc (own := [("part", 2)]) (g := gName 2) (tt := tYes) (te := tCall (spPrev n) [] E0 (tCons (tVar 2) (tCons (tOp (rI0 fun i j => .int (i - j)) (tVar 1) (tC (.int 1))) tNil))) rfl nd (pi_tup (pv 0))
          (blkOk_by (N := ["thing", "levels", "part"]) (sc := defScope sWth) (by decide +kernel)) (fun _ _ _ _ _ => pg_name (i := 2) nd rfl (Or.inl rfl) (Or.inr rfl)) (fun _ _ _ _ _ => pts_nil)
          (fun _ _ _ _ _ => pe_call G hr rfl mG F.kp bG .nil pass0 (pa_cons (pv 2) (pa_cons (pe_op op_sub (pv 1) pe_int) pa_nil)))) pa_nil))))), ?_⟩
    refine rd_isi (.inr (.inr (.inr rfl))) rfl hR ⟨_, rfl, ?_⟩
    rcases @notTup d with ⟨ds, rfl⟩ | hn
    · refine iteB0 rfl ?_
      obtain ⟨m', a, xs, rfl, rfl, ha, hp⟩ := rep_tup hR
      have hlen := Paired.length hp
      cases n with
      | zero =>
        refine ⟨_, rfl, rfl, _, rfl, iteY rfl (iteT ?_)⟩
        exact k H (Same.refl _)
      | succ n =>
        refine ⟨_, rfl, rfl, _, rfl, iteN (by intro z; have := V.int.inj z; omega) ?_⟩
        refine ⟨_, rfl, a, xs, rfl, .inr (SqT.of ha), _, _, rfl, rfl, _, rfl, ?_⟩
        by_cases h20 : ds.length ≤ 20
        · refine iteB0 (decide_eq_false (by omega)) ?_
          refine ⟨_, rfl, a, rfl, ⟨_, SqT.of ha⟩, fun D hD => ?_⟩
          refine lc_tup (K := K) (xs := xs) (fun i H' => Same H H' ∧ H' D = some (.lst ((ds.take i).map fun e => V.bl (isW n e)))) ⟨Same.new (Same.refl _) hD, upd_same⟩ (fun i H' _ p => SqT.of (p.1 _ _ ha)) (fun i x H' hx p => ?_) (fun H' p => ?_)
          · obtain ⟨p1, p2⟩ := p
            obtain ⟨e, he, hre⟩ := Paired.at hp hx
            have hsz : szD e ≤ 1000000 := by
              have h1 := szL_get he
              rw [szD] at hz
              omega
            refine ⟨rfl, yes_of (iteT ?_)⟩
            refine ⟨_, rfl, _, rfl, _, _, rfl, rfl, m', x, e, ?_, hre.same p1, hsz, fun H2 s2 => ⟨_, s2 _ _ p2, ?_, ?_⟩⟩
            · show [x, V.int (((n + 1 : Nat) : Int) - 1)] = [x, V.int (n : Int)]
              rw [show (((n + 1 : Nat) : Int) - 1) = (n : Int) by omega]
            · rw [List.length_map]
              refine Nat.lt_of_le_of_lt (List.length_take_le' _ _) (Nat.lt_of_le_of_lt h20 (by decide))
            · refine ⟨fun b o ec => ?_, ?_⟩
              · rw [upd_ne (ne_of_none ec hD)]; exact s2 _ _ (p1 b o ec)
              · rw [upd_same, take_snoc he, List.map_append]; rfl
          · obtain ⟨p1, p2⟩ := p
            rw [hlen, List.take_length] at p2
            refine ⟨D, ds.map (isW n), rfl, SqL.of (by rw [p2, List.map_map]; rfl), ?_⟩
            have e2 : isW (n + 1) (.tuple ds) = (ds.map (isW n)).all id := by
              rw [isW, decide_eq_true h20, Bool.true_and, List.all_map]; rfl
            have := k H' p1
            rw [e2] at this
            exact this
        · refine iteB1 (decide_eq_true (by omega)) ?_
          have e2 : isW (n + 1) (.tuple ds) = false := by
            rw [isW, decide_eq_false h20]; rfl
          have := k H (Same.refl _)
          rw [e2] at this
          exact this
    · refine iteB1 (by cases d <;> first | rfl | exact absurd rfl (hn _)) ?_
      refine ⟨_, rfl, _, rfl, ?_⟩
      rw [rep_nonn hR]
      have e0 := leaf_or hn n
      cases hnn : isNon d with
      | true =>
        rw [hnn] at e0
        have := k H (Same.refl _)
        rw [e0] at this
        exact iteT this
      | false =>
        rw [hnn, Bool.false_or] at e0
        refine iteF ⟨_, rfl, m, v, d, rfl, hR, hz, fun H1 s1 => ⟨_, rfl, ?_⟩⟩
        cases hw : wdD d with
        | true =>
          rw [hw] at e0
          have := k H1 s1
          rw [e0] at this
          exact iteT this
        | false =>
          rw [hw, Bool.false_or] at e0
          refine iteF ⟨_, rfl, _, rfl, m, v, d, -1000000000, 1000000000, rfl, hR.same s1, ?_⟩
          have := k H1 s1
          rw [e0] at this
          exact this
theorem ok_within {f fW fB : Addr} {fd dW dB : FuncData} {tk tk2 : Tok} (F : Fun K "is_worth_within" "is_worth_within" sWth f fd) (mG : mg "is_worth_within" = some (.ref f)) (bG : Binds K fd ["thing", "levels"] [])
    (GW : FnOk P w K mg pB CX0 1 fW dW ["thing"] spIsWord) (mW : mg "is_word" = some (.ref fW)) (kW : PySem.W.keepIn K (.ref fW) = true) (bW : Binds K dW ["thing"] [])
    (GB : FnOk P w K mg pB CX0 1 fB dB ["thing", "least", "most"] spBtw) (mB : mg "is_between" = some (.ref fB)) (kB : PySem.W.keepIn K (.ref fB) = true) (bB : Binds K dB ["thing", "least", "most"] [])
    (mI : mg "isinstance" = none) (mT : mg "tuple" = none) (mLen : mg "len" = none) (mAll : mg "all" = none) (mF : mg "FARTHEST" = some (.int 1000000000 tk)) (mM : mg "MOST_WORTHS" = some (.int 20 tk2)) :
    ∀ n, FnOk P w K mg pB CX0 (n + 2) f fd ["thing", "levels"] (spWth n)
  | 0 => step_within F 0 ok_bot mG bG GW mW kW bW GB mB kB bB mI mT mLen mAll mF mM
  | n + 1 => step_within F (n + 1) (ok_within F mG bG GW mW kW bW GB mB kB bB mI mT mLen mAll mF mM n) mG bG GW mW kW bW GB mB kB bB mI mT mLen mAll mF mM
end
end My

set_option Elab.async false
set_option linter.all false
set_option maxRecDepth 100000
set_option maxHeartbeats 4000000
namespace My
open PySem L2
section
variable {P : Program} {w : World} {K : PySem.W.Frag} {mg : Str → Option Value} {pB : Heap}
def spIsWorth : Sp := fun vs H Q _ => ∃ (m : Nat) (v : V) (d : PyData), vs = [v] ∧ Rep H m v d ∧ szD d ≤ 1000000 ∧ ∀ H', Same H H' → Q (.bl (isW 4 d)) H'
abbrev sIsWorth : Stmt := top 19
theorem scIsWorth : FnScope ["thing"] ["thing"] (defScope sIsWorth) := ⟨rfl, rfl, rfl, by decide +kernel, rfl, by decide +kernel, by decide +kernel⟩
theorem ok_isworth {f fG : Addr} {fd dG : FuncData} {tk : Tok} (F : Fun K "is_worth" "is_worth" sIsWorth f fd) (G : FnOk P w K mg pB CX0 6 fG dG ["thing", "levels"] (spWth 4)) (mG : mg "is_worth_within" = some (.ref fG)) (kG : PySem.W.keepIn K (.ref fG) = true) (bG : Binds K dG ["thing", "levels"] [])
    (mL : mg "WORTH_LEVELS" = some (.int 4 tk)) : FnOk P w K mg pB CX0 7 f fd ["thing"] spIsWorth := by
  refine F.ok scIsWorth (fun vs H Q E h => ?_) (fun cdv A outer s H vs Q E hr h => ?_)
  · obtain ⟨m, v, d, rfl, _⟩ := h
    rfl
  · obtain ⟨m, v, d, rfl, hR, hz, k⟩ := h
    refine ⟨_, pss_one (ps_ret (pe_call G hr rfl mG kG bG .nil pass0 (pa_cons (pv 0) (pa_cons (pe_glob (by rfl) mL (show RelV (.int 4) _ from ⟨_, rfl⟩)) pa_nil)))), ?_⟩
    exact ⟨_, rfl, m, v, d, rfl, hR, hz, k⟩
abbrev sLWorth : Stmt := top 56
theorem scLWorth : FnScope ["_law_thing", "_law_left", "_law_one"] ["_law_thing", "_law_left"] (defScope sLWorth) := ⟨rfl, rfl, rfl, by decide +kernel, rfl, by decide +kernel, by decide +kernel⟩
theorem step_lworth {f fW fB : Addr} {fd dW dB : FuncData} (F : Fun K "_law_is_worth" "_law_is_worth" sLWorth f fd) (n : Nat) (G : FnOk P w K mg pB CX0 (n + 1) f fd ["_law_thing", "_law_left"] (spPrev n)) (mG : mg "_law_is_worth" = some (.ref f)) (bG : Binds K fd ["_law_thing", "_law_left"] [])
    (GW : FnOk P w K mg pB CX0 1 fW dW ["_law_thing"] spIsWord) (mW : mg "_law_is_word" = some (.ref fW)) (kW : PySem.W.keepIn K (.ref fW) = true) (bW : Binds K dW ["_law_thing"] [])
    (GB : FnOk P w K mg pB CX0 1 fB dB ["_law_thing", "_law_least", "_law_most"] spBtw) (mB : mg "_law_is_from" = some (.ref fB)) (kB : PySem.W.keepIn K (.ref fB) = true) (bB : Binds K dB ["_law_thing", "_law_least", "_law_most"] [])
    (mI : mg "isinstance" = none) (mT : mg "tuple" = none) (mLen : mg "len" = none) : FnOk P w K mg pB CX0 (n + 2) f fd ["_law_thing", "_law_left"] (spWth n) := by
  refine F.ok scLWorth (fun vs H Q E h => ?_) (fun cdv A outer s H vs Q E hr h => ?_)
  · obtain ⟨m, v, d, rfl, _⟩ := h
    rfl
  · obtain ⟨m, v, d, rfl, hR, hz, k⟩ := h
    have nd := scLWorth.nd
    have hr1 : Room 1 _ := hr.mono (by omega)
    refine ⟨_, pss_cons (ps_if (pt_val (pe_callB call_isi (by rfl) mI (by decide +kernel) (pa_cons (pv 0) (pa_cons (pe_bltn (by rfl) mT (by decide +kernel) (show RelV (.ty "tuple") (.type "tuple") from rfl)) pa_nil))))
        (pss_one (ps_ret (pe_and (pe_cmpR op_gt (pv 1) pe_int (nomark _)) (pe_and (pe_cmpR op_le (pe_callB call_len_seq (by rfl) mLen PySem.boot_len (pa_cons (pv 0) pa_nil)) pe_int (nomark _))
          (pe_one (pe_cmpR (op_eqL0 hr.units)
            (pe_lc (own := [("_law_one", 2)]) (g := gName 2) (tt := tNot (tB (tCall (spPrev n) [] E0 (tCons (tVar 2) (tCons (tOp (rI0 fun i j => .int (i - j)) (tVar 1) (tC (.int 1))) tNil))))) (te := tVar 2) rfl nd (pi_tup (pv 0))
              (blkOk_by (N := ["_law_thing", "_law_left", "_law_one"]) (sc := defScope sLWorth) (by decide +kernel)) (fun _ _ _ _ _ => pg_name (i := 2) nd rfl (Or.inl rfl) (Or.inr rfl))
              (fun _ _ _ _ _ => pts_one (pt_not (pt_val (pe_call G hr rfl mG F.kp bG .nil pass0 (pa_cons (pv 2) (pa_cons (pe_op op_sub (pv 1) pe_int) pa_nil)))))) (fun _ _ _ _ _ => pv 2))
            (pe_lst pa_nil) (nomark _))))))) pss_nil)
      (pss_one (ps_ret (pe_or (pe_cmp (pc_isN (pv 0)) rfl) (pe_or (pe_call GW hr1 rfl mW kW bW .nil pass0 (pa_cons (pv 0) pa_nil))
          (pe_one (pe_call GB hr1 rfl mB kB bB .nil pass0 (pa_cons (pv 0) (pa_cons (pe_un un_neg pe_int) (pa_cons pe_int pa_nil))))))))), ?_⟩
    refine rd_isi (.inr (.inr (.inr rfl))) rfl hR ⟨_, rfl, ?_⟩
    rcases @notTup d with ⟨ds, rfl⟩ | hn
    · refine iteB1 rfl ?_
      obtain ⟨m', a, xs, rfl, rfl, ha, hp⟩ := rep_tup hR
      have hlen := Paired.length hp
      cases n with
      | zero =>
        refine ⟨_, rfl, _, _, rfl, rfl, _, rfl, iteB0 rfl ?_⟩
        exact k H (Same.refl _)
      | succ n =>
        refine ⟨_, rfl, _, _, rfl, rfl, _, rfl, iteB1 (decide_eq_true (by omega)) ?_⟩
        refine ⟨_, rfl, a, xs, rfl, .inr (SqT.of ha), _, _, rfl, rfl, _, rfl, ?_⟩
        by_cases h20 : ds.length ≤ 20
        · refine iteB1 (decide_eq_true (by omega)) ?_
          refine ⟨_, rfl, a, rfl, ⟨_, SqT.of ha⟩, fun D hD => ?_⟩
          refine lc_tup (K := K) (xs := xs) (fun i H' => Same H H' ∧ ∃ ys, H' D = some (.lst ys) ∧ ys.isEmpty = (ds.take i).all (isW n) ∧ ys.length ≤ i) ⟨Same.new (Same.refl _) hD, [], upd_same, rfl, Nat.le_refl _⟩ (fun i H' _ p => SqT.of (p.1 _ _ ha)) (fun i x H' hx p => ?_) (fun H' p => ?_)
          · obtain ⟨p1, ys, p2, p3, p4⟩ := p
            obtain ⟨e, he, hre⟩ := Paired.at hp hx
            have hsz : szD e ≤ 1000000 := by
              have h1 := szL_get he
              rw [szD] at hz
              omega
            have hix : i < 21 := by
              have := (List.getElem?_eq_some_iff.mp hx).1
              omega
            refine ⟨rfl, _, rfl, _, rfl, _, _, rfl, rfl, m', x, e, ?_, hre.same p1, hsz, fun H2 s2 => ⟨_, rfl, ?_⟩⟩
            · show [x, V.int (((n + 1 : Nat) : Int) - 1)] = [x, V.int (n : Int)]
              rw [show (((n + 1 : Nat) : Int) - 1) = (n : Int) by omega]
            · cases hw : isW n e with
              | true =>
                refine iteF ⟨p1.trans s2, ys, s2 _ _ p2, ?_, by omega⟩
                rw [p3, take_snoc he, List.all_append]; simp [hw]
              | false =>
                refine iteT ⟨_, rfl, ys, s2 _ _ p2, Nat.lt_of_le_of_lt (show ys.length ≤ 20 by omega) (by decide), fun b o ec => ?_, ys ++ [x], upd_same, ?_, ?_⟩
                · rw [upd_ne (ne_of_none ec hD)]; exact s2 _ _ (p1 b o ec)
                · rw [take_snoc he, List.all_append]; simp [hw]
                · rw [List.length_append]; show _ + 1 ≤ _; omega
          · obtain ⟨p1, ys, p2, p3, p4⟩ := p
            rw [hlen, List.take_length] at p3
            refine ⟨by show 0 ≤ sizeLine; decide, fun q hq => ?_⟩
            have s2 : Same H' (upd H' q (.lst [])) := Same.new (Same.refl _) hq
            refine ⟨D, q, ys, rfl, rfl, SqL.of (s2 _ _ p2), SqL.of upd_same, ?_⟩
            have e2 : isW (n + 1) (.tuple ds) = ys.isEmpty := by
              rw [isW, decide_eq_true h20, Bool.true_and, p3]
            have := k _ (p1.trans s2)
            rw [e2] at this
            exact this
        · refine iteB0 (decide_eq_false (by omega)) ?_
          have e2 : isW (n + 1) (.tuple ds) = false := by
            rw [isW, decide_eq_false h20]; rfl
          have := k H (Same.refl _)
          rw [e2] at this
          exact this
    · refine iteB0 (by cases d <;> first | rfl | exact absurd rfl (hn _)) ?_
      refine ⟨_, rfl, _, rfl, ?_⟩
      rw [rep_nonn hR]
      have e0 := leaf_or hn n
      cases hnn : isNon d with
      | true =>
        rw [hnn] at e0
        have := k H (Same.refl _)
        rw [e0] at this
        exact iteT this
      | false =>
        rw [hnn, Bool.false_or] at e0
        refine iteF ⟨_, rfl, m, v, d, rfl, hR, hz, fun H1 s1 => ⟨_, rfl, ?_⟩⟩
        cases hw : wdD d with
        | true =>
          rw [hw] at e0
          have := k H1 s1
          rw [e0] at this
          exact iteT this
        | false =>
          rw [hw, Bool.false_or] at e0
          refine iteF ⟨_, rfl, _, rfl, m, v, d, -1000000000, 1000000000, rfl, hR.same s1, ?_⟩
          have := k H1 s1
          rw [e0] at this
          exact this
theorem ok_lworth {f fW fB : Addr} {fd dW dB : FuncData} (F : Fun K "_law_is_worth" "_law_is_worth" sLWorth f fd) (mG : mg "_law_is_worth" = some (.ref f)) (bG : Binds K fd ["_law_thing", "_law_left"] [])
    (GW : FnOk P w K mg pB CX0 1 fW dW ["_law_thing"] spIsWord) (mW : mg "_law_is_word" = some (.ref fW)) (kW : PySem.W.keepIn K (.ref fW) = true) (bW : Binds K dW ["_law_thing"] [])
    (GB : FnOk P w K mg pB CX0 1 fB dB ["_law_thing", "_law_least", "_law_most"] spBtw) (mB : mg "_law_is_from" = some (.ref fB)) (kB : PySem.W.keepIn K (.ref fB) = true) (bB : Binds K dB ["_law_thing", "_law_least", "_law_most"] [])
    (mI : mg "isinstance" = none) (mT : mg "tuple" = none) (mLen : mg "len" = none) : ∀ n, FnOk P w K mg pB CX0 (n + 2) f fd ["_law_thing", "_law_left"] (spWth n)
  | 0 => step_lworth F 0 ok_bot mG bG GW mW kW bW GB mB kB bB mI mT mLen
  | n + 1 => step_lworth F (n + 1) (ok_lworth F mG bG GW mW kW bW GB mB kB bB mI mT mLen n) mG bG GW mW kW bW GB mB kB bB mI mT mLen
end
end My

set_option Elab.async false
set_option linter.all false
set_option maxRecDepth 100000
set_option maxHeartbeats 4000000
namespace My
open PySem L2
section
variable {P : Program} {w : World} {K : PySem.W.Frag} {mg : Str → Option Value} {pB : Heap}
/-! ### what is drawn -/
/-- behind some drawing: the pen goes on, all else stands -/
structure Dr (H H' : Hp) (d l : Addr) (ms : List Int) (n n' L' b : Int) : Prop where
  kp : Kp d H H'
  pn : Pen H' d l ms n' L'
  lo : n ≤ n'
  hi : n' ≤ n + b
theorem Dr.trans {H H1 H2 : Hp} {d l : Addr} {ms : List Int} {n n1 n2 L1 L2 b c : Int} (x : Dr H H1 d l ms n n1 L1 b) (y : Dr H1 H2 d l ms n1 n2 L2 c) : Dr H H2 d l ms n n2 L2 (b + c) :=
  ⟨x.kp.trans y.kp, y.pn, Int.le_trans x.lo y.lo, by have := x.hi; have := y.hi; omega⟩
theorem Dr.same {H H1 H2 : Hp} {d l : Addr} {ms : List Int} {n n1 L1 b : Int} (x : Dr H H1 d l ms n n1 L1 b) (s : Same H1 H2) : Dr H H2 d l ms n n1 L1 b :=
  ⟨x.kp.trans (Kp.of s), ⟨s _ _ x.pn.dc, s _ _ x.pn.ls, x.pn.n0, x.pn.l0⟩, x.lo, x.hi⟩
theorem Dr.wk {H H1 : Hp} {d l : Addr} {ms : List Int} {n n1 L1 b c : Int} (x : Dr H H1 d l ms n n1 L1 b) (h : b ≤ c) : Dr H H1 d l ms n n1 L1 c := ⟨x.kp, x.pn, x.lo, by have := x.hi; omega⟩
theorem Dr.refl {H : Hp} {d l : Addr} {ms : List Int} {n L : Int} (p : Pen H d l ms n L) : Dr H H d l ms n n L 0 := ⟨Kp.refl _ _, p, Int.le_refl _, by omega⟩
theorem pen_ne (l : Addr) (n L : Int) : pen l n L ≠ [] := by intro z; cases z
theorem Dr.rep {H H1 : Hp} {d l : Addr} {ms : List Int} {n n1 L L1 b : Int} (x : Dr H H1 d l ms n n1 L1 b) (p : Pen H d l ms n L) {k : Nat} {v : V} {t : PyData} (r : Rep H k v t) : Rep H1 k v t := r.keep p.dc (pen_ne _ _ _) x.kp
/-- one draw, read -/
theorem rd_dr {σ : L2.St} {H : Hp} {Q : VK} {i : Nat} {te : TE} {d l : Addr} {ms : List Int} {n L m : Int} (hσ : σ[i]? = some (some (.ref d))) (ht : ∀ Q' : VK, Q' (.int m) H → te σ H Q') (p : Pen H d l ms n L) (hn : n < 2 ^ 40) (h0 : 0 < m) (h1 : m < 1073741824)
    (h : ∀ (r n' L' : Int) (H' : Hp), 0 ≤ r → r < m → Dr H H' d l ms n n' L' 1 → Q (.int r) H') : tCall spDraw [] E0 (tCons (tVar i) (tCons te tNil)) σ H Q :=
  ⟨_, hσ, ht _ ⟨d, l, ms, n, L, m, rfl, p, hn, h0, h1, fun r n' L' H' r0 r1 a b q k => h r n' L' H' r0 r1 ⟨k, q, a, b⟩⟩⟩
def spPick : Sp := fun vs H Q _ => ∃ (d l : Addr) (ms : List Int) (n L : Int) (y : V), vs = [.ref d, y] ∧ Pen H d l ms n L ∧ n < 2 ^ 39 ∧
  ((∃ z : Str, y = .str z ∧ 0 < z.length ∧ z.length ≤ 1000 ∧ ∀ (c : Nat) (n' L' : Int) (H' : Hp), c ∈ z.cps.toList → Dr H H' d l ms n n' L' 1 → Q (.str ⟨#[c]⟩) H') ∨
   ∃ (a : Addr) (xs : List V), y = .ref a ∧ H a = some (.lst xs) ∧ 0 < xs.length ∧ xs.length ≤ 1000 ∧ ∀ (x : V) (n' L' : Int) (H' : Hp), x ∈ xs → Dr H H' d l ms n n' L' 1 → Q x H')
abbrev sPick : Stmt := top 48
theorem scPick : FnScope ["_law_held", "_law_some"] ["_law_held", "_law_some"] (defScope sPick) := ⟨rfl, rfl, rfl, by decide +kernel, rfl, by decide +kernel, by decide +kernel⟩
theorem atI_of {α : Type} {xs : List α} {r : Int} (h0 : 0 ≤ r) (h1 : r < (xs.length : Int)) : ∃ x, x ∈ xs ∧ atI xs r = some x ∧ xs[r.toNat]? = some x := by
  have hl : r.toNat < xs.length := by omega
  have e := atI_nat (List.getElem?_eq_getElem hl)
  rw [Int.toNat_of_nonneg h0] at e
  exact ⟨_, List.getElem_mem hl, e, List.getElem?_eq_getElem hl⟩
theorem ok_pick {f fD : Addr} {fd dD : FuncData} (F : Fun K "_law_pick" "_law_pick" sPick f fd) (GD : FnOk P w K mg pB CX0 1 fD dD ["_law_held", "_law_many_here"] spDraw) (mD : mg "_law_draw" = some (.ref fD)) (kD : PySem.W.keepIn K (.ref fD) = true) (bD : Binds K dD ["_law_held", "_law_many_here"] [])
    (mLen : mg "len" = none) : FnOk P w K mg pB CX0 2 f fd ["_law_held", "_law_some"] spPick := by
  refine F.ok scPick (fun vs H Q E h => ?_) (fun cdv A outer s H vs Q E hr h => ?_)
  · obtain ⟨d, l, ms, n, L, y, rfl, _⟩ := h
    rfl
  · obtain ⟨d, l, ms, n, L, y, rfl, p, hn, k⟩ := h
    refine ⟨_, pss_one (ps_ret (pe_ix ix_seq (pv 1) (pe_call GD hr rfl mD kD bD .nil pass0 (pa_cons (pv 0) (pa_cons (pe_callB call_len (by rfl) mLen PySem.boot_len (pa_cons (pv 1) pa_nil)) pa_nil))) (fun _ _ => rfl))), ?_⟩
    rcases k with ⟨z, rfl, z0, z1, k⟩ | ⟨a, xs, rfl, ha, z0, z1, k⟩
    · have ez : z.length = z.cps.toList.length := by simp [Str.length]
      have hz : z.length ≤ sizeLine := Nat.le_trans z1 (by decide)
      refine ⟨_, rfl, rd_dr (m := (z.length : Int)) rfl (fun _ h => ⟨_, rfl, _, z.length, rfl, ⟨hz, rfl⟩, h⟩) p (by omega) (by omega) (by omega) fun r n' L' H' r0 r1 x => ?_⟩
      obtain ⟨c, hcm, hc, _⟩ := atI_of (xs := z.cps.toList) r0 (by omega)
      exact .inr (.inr ⟨z, _, c, rfl, rfl, hz, hc, k c n' L' H' hcm x⟩)
    · refine ⟨_, rfl, rd_dr (m := (xs.length : Int)) rfl (fun _ h => ⟨_, rfl, _, xs.length, rfl, .inl ⟨_, SqL.of ha, rfl⟩, h⟩) p (by omega) (by omega) (by omega) fun r n' L' H' r0 r1 x => ?_⟩
      obtain ⟨y, hy, hc, _⟩ := atI_of (xs := xs) r0 r1
      have ha' := x.kp _ _ ha (ne_of ha p.dc (by intro z; cases z))
      exact .inl ⟨a, xs, _, y, rfl, rfl, SqL.of ha', hc, k y n' L' H' hy x⟩
end
end My

set_option Elab.async false
set_option linter.all false
set_option maxRecDepth 100000
set_option maxHeartbeats 4000000
namespace My
open PySem L2
theorem asg_n {te : TE} {i : Nat} {b : TS} {D : Ends} {σ : L2.St} {H : Hp} (h : te σ H fun x H1 => b D (σ.set i (some x)) H1) : tSeq (tAsg te (gName i)) b D σ H := h
theorem call_of {sp : Sp} {t : TA} {σ : L2.St} {H : Hp} {Q : VK} (h : t σ H fun vs H1 => sp (vs ++ []) H1 Q E0) : tCall sp [] E0 t σ H Q := h
section
variable {P : Program} {w : World} {K : PySem.W.Frag} {mg : Str → Option Value} {pB : Heap}
theorem Dr.upd {H H' : Hp} {d l D : Addr} {ms : List Int} {n n' L L' b : Int} {o : HO} (x : Dr H H' d l ms n n' L' b) (p : Pen H d l ms n L) (hD : H D = none) : Dr H (L2.upd H' D o) d l ms n n' L' b :=
  ⟨fun c u e nc => by rw [upd_ne (ne_of_none e hD)]; exact x.kp c u e nc, ⟨by rw [upd_ne (ne_of_none p.dc hD)]; exact x.pn.dc, by rw [upd_ne (ne_of_none p.ls hD)]; exact x.pn.ls, x.pn.n0, x.pn.l0⟩, x.lo, x.hi⟩
theorem Pen.same {H H' : Hp} {d l : Addr} {ms : List Int} {n L : Int} (p : Pen H d l ms n L) (s : Same H H') : Pen H' d l ms n L := ⟨s _ _ p.dc, s _ _ p.ls, p.n0, p.l0⟩
theorem join0_tl (cs : List Nat) : TL.tl (Txt.join "" (cs.map fun c => (⟨#[c]⟩ : Str))) = cs := by
  rw [TL.join_eq, TL.tl_join, show TL.tl ("" : Str) = [] by decide +kernel]
  have h : ∀ ps : List (List Nat), TL.joinL [] ps = ps.flatten := by
    intro ps
    induction ps with
    | nil => rfl
    | cons p ps ih =>
      cases ps with
      | nil => simp [TL.joinL]
      | cons q r =>
        show p ++ ([] ++ TL.joinL [] (q :: r)) = _
        rw [ih, List.nil_append, List.flatten_cons (l := p)]
  rw [h, List.map_map]
  induction cs with
  | nil => rfl
  | cons c cs ih =>
    rw [List.map_cons, List.flatten_cons, ih]
    rfl
theorem join0_len (cs : List Nat) : (Txt.join "" (cs.map fun c => (⟨#[c]⟩ : Str))).length = cs.length := by
  rw [TL.len_tl, join0_tl]
theorem sum_ones (cs : List Nat) : ((cs.map fun c => (⟨#[c]⟩ : Str)).map (·.length)).sum = cs.length := by
  induction cs with
  | nil => rfl
  | cons c cs ih =>
    rw [List.map_cons, List.map_cons, List.sum_cons, ih, List.length_cons]
    show 1 + cs.length = _
    omega
def wd8 : List Str := ["say", "kept", "none", "a", "z", "abcdefgh", "zzzzzzzz", "post"]
theorem wd8_wd : ∀ x ∈ wd8, isWd x = true := by decide +kernel
theorem wd8_len : ∀ x ∈ wd8, x.length ≤ 8 := by decide +kernel
def spWord : Sp := fun vs H Q _ => ∃ (d l : Addr) (ms : List Int) (n L : Int), vs = [.ref d] ∧ Pen H d l ms n L ∧ n < 2 ^ 38 ∧ ∀ (x : Str) (n' L' : Int) (H' : Hp), x.length ≤ 8 → isWd x = true → Dr H H' d l ms n n' L' 20 → Q (.str x) H'
abbrev sWord : Stmt := top 49
theorem scWord : FnScope ["_law_held", "_law_some", "_law_letters", "_law_drawn", "_law_k"] ["_law_held"] (defScope sWord) := ⟨rfl, rfl, rfl, by decide +kernel, rfl, by decide +kernel, by decide +kernel⟩
theorem ok_word {f fD fP : Addr} {fd dD dP : FuncData} (F : Fun K "_law_word" "_law_word" sWord f fd) (GD : FnOk P w K mg pB CX0 1 fD dD ["_law_held", "_law_many_here"] spDraw) (mD : mg "_law_draw" = some (.ref fD)) (kD : PySem.W.keepIn K (.ref fD) = true) (bD : Binds K dD ["_law_held", "_law_many_here"] [])
    (GP : FnOk P w K mg pB CX0 2 fP dP ["_law_held", "_law_some"] spPick) (mP : mg "_law_pick" = some (.ref fP)) (kP : PySem.W.keepIn K (.ref fP) = true) (bP : Binds K dP ["_law_held", "_law_some"] []) (mR : mg "range" = none) :
    FnOk P w K mg pB CX0 3 f fd ["_law_held"] spWord := by
  refine F.ok scWord (fun vs H Q E h => ?_) (fun cdv A outer s H vs Q E hr h => ?_)
  · obtain ⟨d, l, ms, n, L, rfl, _⟩ := h
    rfl
  · obtain ⟨d, l, ms, n, L, rfl, p, hn, k⟩ := h
    have nd := scWord.nd
    have hr1 : Room 1 _ := hr.mono (by decide)
    refine ⟨_, pss_cons (ps_set (i := 1) nd rfl (Or.inl rfl) (pe_lst (pa_cons pe_str (pa_cons pe_str (pa_cons pe_str (pa_cons pe_str (pa_cons pe_str (pa_cons pe_str (pa_cons pe_str (pa_cons pe_str pa_nil))))))))))
      (pss_cons (ps_set (i := 2) nd rfl (Or.inr rfl) pe_str)
      (pss_cons (ps_set (i := 3) nd rfl (Or.inl rfl) (pe_join pe_str
        (pe_lc (own := [("_law_k", 4)]) (g := gName 4) (tt := tYes) (te := tCall spPick [] E0 (tCons (tVar 0) (tCons (tVar 2) tNil))) rfl nd
          (pi_range1 rfl mR (pa_cons (pe_op op_add pe_int (pe_call GD hr1 rfl mD kD bD .nil pass0 (pa_cons (pv 0) (pa_cons pe_int pa_nil)))) pa_nil))
          (blkOk_by (N := ["_law_held", "_law_some", "_law_letters", "_law_drawn", "_law_k"]) (sc := defScope sWord) (by decide +kernel)) (fun _ _ _ _ _ => pg_name (i := 4) nd rfl (Or.inl rfl) (Or.inr rfl)) (fun _ _ _ _ _ => pts_nil)
          (fun _ _ _ _ _ => pe_call GP hr rfl mP kP bP .nil pass0 (pa_cons (pv 0) (pa_cons (pv 2) pa_nil))))))
      (pss_one (ps_ret (pe_ix ix_list (pe_lst (pa_cons (pv 3) (pa_cons (pe_call GP hr rfl mP kP bP .nil pass0 (pa_cons (pv 0) (pa_cons (pv 1) pa_nil))) pa_nil)))
        (pe_call GD hr1 rfl mD kD bD .nil pass0 (pa_cons (pv 0) (pa_cons pe_int pa_nil))) (fun _ _ => rfl)))))), ?_⟩
    refine asg_n (lst_of ⟨by show 8 ≤ sizeLine; decide, fun ls hls => ?_⟩)
    have s1 : Same H (upd H ls (.lst (wd8.map V.str))) := Same.new (Same.refl _) hls
    have c1 : (upd H ls (.lst (wd8.map V.str))) ls = some (.lst (wd8.map V.str)) := upd_same
    have p1 := p.same s1
    change tSeq _ _ _ _ (upd H ls (.lst (wd8.map V.str)))
    generalize upd H ls (.lst (wd8.map V.str)) = H1 at s1 c1 p1 ⊢
    refine asg_n (te := tC _) (asg_n ?_)
    refine ⟨⟨_, rfl⟩, rd_dr (m := 8) rfl (fun _ h => h) p1 (by omega) (by decide) (by decide) fun r n1 L1 H2 r0 r1 x1 => ⟨_, _, rfl, rfl, _, rfl, by omega, by omega, fun D hD => ?_⟩⟩
    refine lc_range (lo := 0) (n := (1 + r).toNat) (fun i H' => ∃ (n' L' : Int) (cs : List Nat), Dr H2 H' d l ms n1 n' L' i ∧ (cs.length = i ∧ ∀ c ∈ cs, c ∈ letters) ∧ H' D = some (.lst ((cs.map fun c => (⟨#[c]⟩ : Str)).map V.str))) ⟨n1, L1, [], (Dr.refl x1.pn).same (Same.new (Same.refl _) hD), ⟨rfl, fun c h => nomatch h⟩, upd_same⟩ (fun i H' hi p => ?_) (fun H' p => ?_)
    · obtain ⟨n', L', cs, x, ⟨hc, hcl⟩, hD'⟩ := p
      have := x1.hi
      have := x.hi
      refine ⟨rfl, yes_of (iteT (call_of ⟨_, rfl, _, rfl, d, l, ms, n', L', _, rfl, x.pn, by omega, .inl ⟨_, rfl, by decide +kernel, by decide +kernel, fun c n2 L2 H3 hcm y => ?_⟩⟩))⟩
      have hD3 := y.kp _ _ hD' (ne_of hD' x.pn.dc (by intro z; cases z))
      refine ⟨_, hD3, ?_, n2, L2, cs ++ [c], ?_, ⟨by rw [List.length_append, hc]; rfl, fun q hq => (List.mem_append.mp hq).elim (hcl q) fun z => by rw [List.mem_singleton.mp z]; exact hcm⟩, ?_⟩
      · rw [List.length_map, List.length_map]
        exact Nat.lt_of_le_of_lt (show cs.length ≤ 10 by omega) (by decide)
      · exact ((x.trans y).upd x1.pn hD).wk (by omega)
      · rw [upd_same]; simp
    · obtain ⟨n', L', cs, x, ⟨hc, hcl⟩, hD'⟩ := p
      have := x1.hi
      have := x.hi
      refine ⟨_, D, _, rfl, rfl, .inl (SqL.of hD'), ?_, ?_⟩
      · rw [sum_ones, List.length_map, show Str.length "" = 0 by decide +kernel]; omega
      · have hlen := join0_len cs
        have hwd : isWd (Txt.join (Str.ofString "") (cs.map fun c => (⟨#[c]⟩ : Str))) = true := by
          unfold isWd
          rw [Bool.and_eq_true]
          refine ⟨decide_eq_true ⟨by rw [hlen]; omega, by rw [hlen]; omega⟩, List.all_eq_true.mpr fun c hc' => decide_eq_true (hcl c ?_)⟩
          have e := join0_tl cs
          rw [← e]
          exact hc'
        generalize Txt.join (Str.ofString "") (cs.map fun c => (⟨#[c]⟩ : Str)) = wdr at hlen hwd ⊢
        have xx := x1.trans x
        have c2 : H' ls = some (.lst (wd8.map V.str)) := xx.kp _ _ c1 (ne_of c1 p1.dc (by intro z; cases z))
        refine ⟨_, rfl, call_of ⟨_, rfl, _, rfl, d, l, ms, n', L', _, rfl, x.pn, by omega, .inr ⟨ls, _, rfl, c2, by decide, by decide, fun y n3 L3 H4 hy x4 => ?_⟩⟩⟩
        obtain ⟨yw, hyw, rfl⟩ := List.mem_map.mp hy
        refine ⟨by show 2 ≤ sizeLine; decide, fun q hq => ?_⟩
        have s5 : Same H4 (upd H4 q (.lst [.str wdr, .str yw])) := Same.new (Same.refl _) hq
        have := x4.hi
        refine rd_dr (m := 2) rfl (fun _ h => h) (x4.pn.same s5) (by omega) (by decide) (by decide) fun r6 n6 L6 H6 r60 r61 x6 => ?_
        have cq : H6 q = some (.lst [.str wdr, .str yw]) := x6.kp _ _ upd_same (ne_of upd_same (x4.pn.same s5).dc (by intro z; cases z))
        have tot : Dr H H6 d l ms n n6 L6 20 := ((((Dr.refl p).same s1).trans xx).trans ((x4.same s5).trans x6)).wk (by omega)
        obtain ⟨v, hv, hat, _⟩ := atI_of (xs := [V.str wdr, V.str yw]) r60 r61
        refine ⟨q, _, _, v, rfl, rfl, SqL.of cq, hat, ?_⟩
        rcases List.mem_cons.mp hv with rfl | hv
        · exact k wdr n6 L6 H6 (by omega) hwd tot
        · rw [List.mem_singleton.mp hv]
          exact k yw n6 L6 H6 (wd8_len yw hyw) (wd8_wd yw hyw) tot
end
end My

set_option Elab.async false
set_option linter.all false
set_option maxRecDepth 100000
set_option maxHeartbeats 4000000
namespace My
open PySem L2
theorem nxt_of {a b : TS} {D : Ends} {r : VK} {k c : L2.St → Hp → Prop} {σ : L2.St} {H : Hp} (h : tSeq a b D σ H) : tNext { nx := tSeq a b D, rt := r, bk := k, ct := c } σ H := h
section
variable {P : Program} {w : World} {K : PySem.W.Frag} {mg : Str → Option Value} {pB : Heap}
theorem base_mono2 {H H' : Hp} {T T' : V → List PyData → Prop} {v : V} {d : PyData} (hl : ∀ a xs, H a = some (.lst xs) → ∃ xs', H' a = some (.lst xs')) (hd : ∀ a, H a = some (.dK []) → H' a = some (.dK [])) (ht : ∀ ds, T v ds → T' v ds)
    (h : base H T v d) : base H' T' v d := by
  cases d with
  | none => exact h
  | bool b => exact h
  | int i => exact h
  | str x => exact h
  | list ds =>
    obtain ⟨a, xs, e, q⟩ := h
    obtain ⟨xs', q'⟩ := hl a xs q
    exact ⟨a, xs', e, q'⟩
  | dict kvs =>
    obtain ⟨a, e, q⟩ := h
    exact ⟨a, e, hd a q⟩
  | tuple ds => exact ht ds h
/-- a list may grow -/
theorem Rep.updL {H : Hp} {D : Addr} {ys zs : List V} (hD : H D = some (.lst ys)) : ∀ {n : Nat} {v : V} {x : PyData}, Rep H n v x → Rep (L2.upd H D (.lst zs)) n v x := by
  have kl : ∀ a xs, H a = some (.lst xs) → ∃ xs', (L2.upd H D (.lst zs)) a = some (.lst xs') := fun a xs e => by
    by_cases h : a = D
    · exact ⟨zs, by rw [h, upd_same]⟩
    · exact ⟨xs, by rw [upd_ne h]; exact e⟩
  have kd : ∀ a, H a = some (.dK []) → (L2.upd H D (.lst zs)) a = some (.dK []) := fun a e => by
    rw [upd_ne (ne_of e hD (by intro z; cases z))]; exact e
  intro n
  induction n with
  | zero => exact fun h => base_mono2 kl kd (fun _ z => z) h
  | succ n ih => exact fun h => base_mono2 kl kd (fun ds ⟨a, xs, e, q, p⟩ => ⟨a, xs, e, by rw [upd_ne (ne_of q hD (by intro z; cases z))]; exact q, Paired.mapP p fun _ _ z => ih z⟩) h
def bW : Nat → Int
  | 0 => 30
  | k + 1 => 30 + 20 * bW k
theorem bW_pos : ∀ k, 30 ≤ bW k
  | 0 => by decide
  | k + 1 => by have := bW_pos k; rw [bW]; omega
def mny (k : Nat) : Nat := if k = 1 then 20 else 3
def wS : Nat → Nat
  | 0 => 9
  | k + 1 => 9 + mny (k + 1) * wS k
theorem wS_9 : ∀ k, 9 ≤ wS k
  | 0 => by decide
  | k + 1 => by rw [wS]; omega
def spWor (k : Nat) : Sp := fun vs H Q _ => ∃ (d l : Addr) (ms : List Int) (n L : Int), vs = [.ref d, .int (k : Int)] ∧ Pen H d l ms n L ∧ n + bW k ≤ 2 ^ 37 ∧
  ∀ (v : V) (x : PyData) (n' L' : Int) (H' : Hp), Rep H' k v x → szD x ≤ wS k → isW k x = true → Dr H H' d l ms n n' L' (bW k) → Q v H'
def spPrevW : Nat → Sp
  | 0 => spBot
  | k + 1 => spWor k
theorem rep_i {H : Hp} {k : Nat} (i : Int) : Rep H k (.int i) (.int i) := by cases k <;> rfl
theorem rep_s {H : Hp} {k : Nat} (x : Str) : Rep H k (.str x) (.str x) := by cases k <;> rfl
theorem rep_n {H : Hp} {k : Nat} : Rep H k .non .none := by cases k <;> rfl
theorem rep_t {H : Hp} {k : Nat} {a : Addr} {xs : List V} {ds : List PyData} (h : H a = some (.tup xs)) (p : Paired (Rep H k) xs ds) : Rep H (k + 1) (.ref a) (.tuple ds) := ⟨a, xs, rfl, h, p⟩
abbrev sWor : Stmt := top 50
theorem scWor : FnScope ["_law_held", "_law_within", "_law_lot", "_law_many_here", "_law_k"] ["_law_held", "_law_within"] (defScope sWor) := ⟨rfl, rfl, rfl, by decide +kernel, rfl, by decide +kernel, by decide +kernel⟩
theorem step_wor {f fD fV : Addr} {fd dD dV : FuncData} (F : Fun K "_law_worth" "_law_worth" sWor f fd) (k : Nat) (G : FnOk P w K mg pB CX0 (k + 3) f fd ["_law_held", "_law_within"] (spPrevW k)) (mG : mg "_law_worth" = some (.ref f)) (bG : Binds K fd ["_law_held", "_law_within"] [])
    (GD : FnOk P w K mg pB CX0 1 fD dD ["_law_held", "_law_many_here"] spDraw) (mD : mg "_law_draw" = some (.ref fD)) (kD : PySem.W.keepIn K (.ref fD) = true) (bD : Binds K dD ["_law_held", "_law_many_here"] [])
    (GV : FnOk P w K mg pB CX0 3 fV dV ["_law_held"] spWord) (mV : mg "_law_word" = some (.ref fV)) (kV : PySem.W.keepIn K (.ref fV) = true) (bV : Binds K dV ["_law_held"] [])
    (mInt : mg "int" = none) (mT : mg "tuple" = none) (mR : mg "range" = none) : FnOk P w K mg pB CX0 (k + 4) f fd ["_law_held", "_law_within"] (spWor k) := by
  refine F.ok scWor (fun vs H Q E h => ?_) (fun cdv A outer s H vs Q E hr h => ?_)
  · obtain ⟨d, l, ms, n, L, rfl, _⟩ := h
    rfl
  · obtain ⟨d, l, ms, n, L, rfl, p, hn, kont⟩ := h
    have nd := scWor.nd
    have hr1 : Room 1 _ := hr.mono (by omega)
    have hr3 : Room 3 _ := hr.mono (by omega)
    have hb := bW_pos k
    refine ⟨_, pss_cons (ps_set (i := 2) nd rfl (Or.inl rfl) (pe_call GD hr1 rfl mD kD bD .nil pass0 (pa_cons (pv 0) (pa_cons (pe_op op_add pe_int (pe_callTy call_int1 (by rfl) mInt (by decide +kernel) (pa_cons (pe_cmpR op_gt (pv 1) pe_int (nomark _)) pa_nil))) pa_nil))))
      (pss_cons (ps_if (pt_cmpR op_lt (pv 2) pe_int (nomark _)) (pss_one (ps_ret (pe_ix ix_list (pe_lst (pa_cons pe_non (pa_cons (pe_call GV hr3 rfl mV kV bV .nil pass0 (pa_cons (pv 0) pa_nil)) pa_nil))) (pv 2) (fun _ _ => rfl)))) pss_nil)
      (pss_cons (ps_if (pt_cmpR op_eq (pv 2) pe_int (nomark _)) (pss_one (ps_ret (pe_op op_sub (pe_call GD hr1 rfl mD kD bD .nil pass0 (pa_cons (pv 0) (pa_cons pe_int pa_nil))) pe_int))) pss_nil)
      (pss_cons (ps_if (pt_cmpR op_eq (pv 2) pe_int (nomark _)) (pss_one (ps_ret (pe_ix ix_list (pe_lst (pa_cons pe_int (pa_cons (pe_un un_neg pe_int) (pa_cons pe_int (pa_cons (pe_un un_neg pe_int) pa_nil)))))
          (pe_call GD hr1 rfl mD kD bD .nil pass0 (pa_cons (pv 0) (pa_cons pe_int pa_nil))) (fun _ _ => rfl)))) pss_nil)
      (pss_cons (ps_set (i := 3) nd rfl (Or.inl rfl) (pe_ix ix_list (pe_lst (pa_cons (pe_call GD hr1 rfl mD kD bD .nil pass0 (pa_cons (pv 0) (pa_cons pe_int pa_nil))) (pa_cons pe_int pa_nil)))
          (pe_callTy call_int1 (by rfl) mInt (by decide +kernel) (pa_cons (pe_and (pe_cmpR op_eq (pv 1) pe_int (nomark _)) (pe_one (pe_cmpR op_eq (pe_call GD hr1 rfl mD kD bD .nil pass0 (pa_cons (pv 0) (pa_cons pe_int pa_nil))) pe_int (nomark _)))) pa_nil)) (fun _ _ => rfl)))
      (pss_one (ps_ret (pe_tupleOf (by rfl) mT
        (pe_lc (own := [("_law_k", 4)]) (g := gName 4) (tt := tYes) (te := tCall (spPrevW k) [] E0 (tCons (tVar 0) (tCons (tOp (rI0 fun i j => .int (i - j)) (tVar 1) (tC (.int 1))) tNil))) rfl nd
          (pi_range1 rfl mR (pa_cons (pv 3) pa_nil))
          (blkOk_by (N := ["_law_held", "_law_within", "_law_lot", "_law_many_here", "_law_k"]) (sc := defScope sWor) (by decide +kernel)) (fun _ _ _ _ _ => pg_name (i := 4) nd rfl (Or.inl rfl) (Or.inr rfl)) (fun _ _ _ _ _ => pts_nil)
          (fun _ _ _ _ _ => pe_call G hr rfl mG F.kp bG .nil pass0 (pa_cons (pv 0) (pa_cons (pe_op op_sub (pv 1) pe_int) pa_nil))))))))))), ?_⟩
    refine asg_n (rd_dr rfl (fun _ h => ⟨_, rfl, _, _, rfl, rfl, .inr ⟨_, rfl, _, _, rfl, rfl, h⟩⟩) p (by omega) (by split <;> omega) (by split <;> omega) fun lot n1 L1 H1 r0 r1 x1 => ?_)
    have h1 := x1.hi
    have leafK : ∀ (v : V) (t : PyData) (n' L' : Int) (H' : Hp), Rep H' k v t → szD t ≤ 9 → isW k t = true → Dr H1 H' d l ms n1 n' L' 29 → Q v H' := fun v t n' L' H' hr hs hw x => kont v t n' L' H' hr (Nat.le_trans hs (wS_9 k)) hw ((x1.trans x).wk (by omega))
    refine ⟨_, rfl, _, _, rfl, rfl, _, rfl, ite2 (fun c => ?_) (fun c => ?_)⟩
    · have c := of_decide_eq_true c
      refine ⟨_, rfl, d, l, ms, n1, L1, rfl, x1.pn, by omega, fun xw n2 L2 H2 hx hxw x2 => ⟨by show 2 ≤ sizeLine; decide, fun q hq => ?_⟩⟩
      have s3 : Same H2 (upd H2 q (.lst [.non, .str xw])) := Same.new (Same.refl _) hq
      obtain ⟨v, hv, hat, _⟩ := atI_of (xs := [V.non, V.str xw]) r0 c
      refine ⟨_, rfl, q, _, _, v, rfl, rfl, SqL.of upd_same, hat, ?_⟩
      rcases List.mem_cons.mp hv with rfl | hv
      · exact leafK .non .none n2 L2 _ rep_n (by decide) (by rw [isW_leaf (by intro ds z; cases z)]; rfl) ((x2.same s3).wk (by omega))
      · rw [List.mem_singleton.mp hv]
        exact leafK (.str xw) (.str xw) n2 L2 _ (rep_s xw) (by rw [szD]; omega) (by rw [isW_leaf (by intro ds z; cases z)]; exact hxw) ((x2.same s3).wk (by omega))
    refine ⟨_, rfl, rfl, _, rfl, ite2 (fun c2 => ?_) (fun c2 => ?_)⟩
    · refine rd_dr (m := 2001) rfl (fun _ h => h) x1.pn (by omega) (by decide) (by decide) fun r n2 L2 H2 q0 q1 x2 => ⟨_, _, rfl, rfl, ?_⟩
      exact leafK _ (.int _) n2 L2 H2 (rep_i _) (show 1 ≤ 9 by decide) (by rw [isW_leaf (by intro ds z; cases z)]; exact decide_eq_true ⟨by omega, by omega⟩) (x2.wk (by decide))
    refine ⟨_, rfl, rfl, _, rfl, ite2 (fun c3 => ?_) (fun c3 => ?_)⟩
    · refine ⟨_, rfl, _, rfl, by show 4 ≤ sizeLine; decide, fun q hq => ?_⟩
      have s2 : Same H1 (upd H1 q (.lst [.int 1000000000, .int (-1000000000), .int 0, .int (-1)])) := Same.new (Same.refl _) hq
      refine rd_dr (m := 4) rfl (fun _ h => h) (x1.pn.same s2) (by omega) (by decide) (by decide) fun r n2 L2 H2 q0 q1 x2 => ?_
      have cq : H2 q = some (.lst [.int 1000000000, .int (-1000000000), .int 0, .int (-1)]) := x2.kp _ _ upd_same (ne_of upd_same (x1.pn.same s2).dc (by intro z; cases z))
      obtain ⟨v, hv, hat, _⟩ := atI_of (xs := [V.int 1000000000, V.int (-1000000000), V.int 0, V.int (-1)]) q0 q1
      refine ⟨q, _, _, v, rfl, rfl, SqL.of cq, hat, ?_⟩
      have hx : ∃ i : Int, v = .int i ∧ -1000000000 ≤ i ∧ i ≤ 1000000000 := by
        simp only [List.mem_cons, List.mem_nil_iff, or_false] at hv
        rcases hv with rfl | rfl | rfl | rfl <;> exact ⟨_, rfl, by decide, by decide⟩
      obtain ⟨i, rfl, hi1, hi2⟩ := hx
      exact leafK _ (.int i) n2 L2 H2 (rep_i i) (show 1 ≤ 9 by decide) (by rw [isW_leaf (by intro ds z; cases z)]; exact decide_eq_true ⟨hi1, hi2⟩) ((((Dr.refl x1.pn).same s2).trans x2).wk (by decide))
    have hk : 0 < k := by
      rcases Nat.eq_zero_or_pos k with z | z
      · subst z
        exfalso
        have c' : ¬ lot < 2 := fun z => c (decide_eq_true z)
        have c2 : ¬ lot = 2 := fun z => c2 (decide_eq_true (by rw [z]))
        have c3 : ¬ lot = 3 := fun z => c3 (decide_eq_true (by rw [z]))
        rw [if_neg (by simp)] at r1
        omega
      · exact z
    obtain ⟨j, rfl⟩ : ∃ j, k = j + 1 := ⟨k - 1, by omega⟩
    have hbj : bW (j + 1) = 30 + 20 * bW j := rfl
    have hbj0 := bW_pos j
    refine nxt_of (asg_n ?_)
    refine rd_dr (m := 4) rfl (fun _ h => h) x1.pn (by omega) (by decide) (by decide) fun r4 n2 L2 H2 q0 q1 x2 => ⟨by show 2 ≤ sizeLine; decide, fun q hq => ?_⟩
    have s3 : Same H2 (upd H2 q (.lst [.int r4, .int 20])) := Same.new (Same.refl _) hq
    have h2 := x2.hi
    have rest : ∀ (b : Bool) (n3 L3 : Int) (H3 : Hp), (b = true → j = 0) → Dr (upd H2 q (.lst [.int r4, .int 20])) H3 d l ms n2 n3 L3 1 →
        ∃ many : Nat, many ≤ mny (j + 1) ∧ atI [V.int r4, V.int 20] (if b = true then 1 else 0) = some (V.int (many : Int)) ∧ H3 q = some (.lst [.int r4, .int 20]) := by
      intro b n3 L3 H3 hb x3
      have cq : H3 q = some (.lst [.int r4, .int 20]) := x3.kp _ _ upd_same (ne_of upd_same (x2.pn.same s3).dc (by intro z; cases z))
      cases b with
      | true =>
        refine ⟨20, ?_, rfl, cq⟩
        rw [hb rfl]; decide
      | false =>
        refine ⟨r4.toNat, ?_, ?_, cq⟩
        · unfold mny
          split <;> omega
        · rw [Int.toNat_of_nonneg q0]; rfl
    have fin : ∀ (many : Nat) (n3 L3 : Int) (H3 : Hp), many ≤ mny (j + 1) → Dr (upd H2 q (.lst [.int r4, .int 20])) H3 d l ms n2 n3 L3 1 →
        tThen (tLc (iRng1 (tCons (tVar 3) tNil)) (gName 4) tYes (tCall (spPrevW (j + 1)) [] E0 (tCons (tVar 0) (tCons (tOp (rI0 fun i j => V.int (i - j)) (tVar 1) (tC (V.int 1))) tNil))) [4]) (kTup K)
          [some (.ref d), some (.int ((j + 1 : Nat) : Int)), some (.int lot), some (.int (many : Int)), none] H3 Q := by
      intro many n3 L3 H3 hm x3
      have hm20 : many ≤ 20 := Nat.le_trans hm (by unfold mny; split <;> decide)
      have h3 := x3.hi
      refine ⟨_, rfl, _, rfl, by omega, by omega, fun D hD => ?_⟩
      refine lc_range (lo := 0) (n := (many : Int).toNat) (fun i H' => ∃ (n' L' : Int) (ys : List V) (ts : List PyData), Dr H3 H' d l ms n3 n' L' ((i : Int) * bW j) ∧ ys.length = i ∧ H' D = some (.lst ys) ∧ Paired (Rep H' j) ys ts ∧ szL ts ≤ i * wS j ∧ ∀ t ∈ ts, isW j t = true)
        ⟨n3, L3, [], [], ((Dr.refl x3.pn).same (Same.new (Same.refl _) hD)).wk (by simp), rfl, upd_same, .nil, by simp [szL], fun t h => nomatch h⟩ (fun i H' hi p => ?_) (fun H' p => ?_)
      · obtain ⟨n', L', ys, ts, x, hl, hD', hp, hs, hws⟩ := p
        have h4 := x.hi
        have hi20 : i < 20 := by omega
        have hmul : (i : Int) * bW j ≤ 19 * bW j := Int.mul_le_mul_of_nonneg_right (by omega) (by omega)
        refine ⟨rfl, yes_of (iteT (call_of ⟨_, rfl, _, rfl, _, _, rfl, rfl, d, l, ms, n', L', ?_, x.pn, by omega, fun v t n5 L5 H5 hr5 hs5 hw5 x5 => ?_⟩))⟩
        · show [V.ref d, V.int (((j + 1 : Nat) : Int) - 1)] = [V.ref d, V.int (j : Int)]
          rw [show (((j + 1 : Nat) : Int) - 1) = (j : Int) by omega]
        · have hD5 := x5.kp _ _ hD' (ne_of hD' x.pn.dc (by intro z; cases z))
          refine ⟨ys, hD5, Nat.lt_of_le_of_lt (show ys.length ≤ 20 by omega) (by decide), n5, L5, ys ++ [v], ts ++ [t], ?_, by rw [List.length_append, hl]; rfl, upd_same, ?_, ?_, fun q hq => (List.mem_append.mp hq).elim (hws q) fun z => by rw [List.mem_singleton.mp z]; exact hw5⟩
          · refine ((x.trans x5).upd x3.pn hD).wk ?_
            rw [show (((i + 1 : Nat) : Int)) = (i : Int) + 1 by omega, Int.add_mul, Int.one_mul]
            exact Int.le_refl _
          · exact Paired.snoc (Paired.mapP hp fun _ _ z => (x5.rep x.pn z).updL hD5) (hr5.updL hD5)
          · rw [szL_app, szL, szL, Nat.succ_mul]; omega
      · obtain ⟨n', L', ys, ts, x, hl, hD', hp, hs, hws⟩ := p
        have h4 := x.hi
        have hmm : ((many : Int).toNat : Int) = (many : Int) := by omega
        refine .inl ⟨D, ys, rfl, SqL.of hD', fun tq htq => ?_⟩
        have s7 : Same H' (upd H' tq (.tup ys)) := Same.new (Same.refl _) htq
        refine kont (.ref tq) (.tuple ts) n' L' _ (rep_t upd_same (Paired.mapP hp fun _ _ z => z.same s7)) ?_ (by rw [isW, Bool.and_eq_true]; exact ⟨decide_eq_true (by have := Paired.length hp; omega), List.all_eq_true.mpr hws⟩) ?_
        · rw [szD, wS]
          have : (many : Int).toNat * wS j ≤ mny (j + 1) * wS j := Nat.mul_le_mul_right _ (by omega)
          omega
        · have hmul : ((many : Int).toNat : Int) * bW j ≤ 20 * bW j := Int.mul_le_mul_of_nonneg_right (by omega) (by omega)
          exact ((x1.trans ((x2.same s3).trans (x3.trans x))).same s7).wk (by omega)
    refine ⟨_, rfl, rfl, _, rfl, ite2 (fun c4 => ?_) (fun c4 => ?_)⟩
    · have hj : j = 0 := by
        have := V.int.inj (of_decide_eq_true c4)
        omega
      refine rd_dr (m := 9) rfl (fun _ h => h) (x2.pn.same s3) (by omega) (by decide) (by decide) fun r9 n3 L3 H3 u0 u1 x3 => ⟨rfl, ?_⟩
      obtain ⟨many, hm, hat, cq⟩ := rest (decide (V.int r9 = V.int 0)) n3 L3 H3 (fun _ => hj) x3
      exact .inr ⟨_, rfl, q, _, _, _, rfl, rfl, SqL.of cq, hat, fin many n3 L3 H3 hm x3⟩
    · have x3 : Dr (upd H2 q (.lst [.int r4, .int 20])) (upd H2 q (.lst [.int r4, .int 20])) d l ms n2 n2 L2 1 := (Dr.refl (x2.pn.same s3)).wk (by decide)
      obtain ⟨many, hm, hat, cq⟩ := rest false n2 L2 _ (fun z => by cases z) x3
      exact .inr ⟨_, rfl, q, _, _, _, rfl, rfl, SqL.of cq, hat, fin many n2 L2 _ hm x3⟩
theorem ok_wor {f fD fV : Addr} {fd dD dV : FuncData} (F : Fun K "_law_worth" "_law_worth" sWor f fd) (mG : mg "_law_worth" = some (.ref f)) (bG : Binds K fd ["_law_held", "_law_within"] [])
    (GD : FnOk P w K mg pB CX0 1 fD dD ["_law_held", "_law_many_here"] spDraw) (mD : mg "_law_draw" = some (.ref fD)) (kD : PySem.W.keepIn K (.ref fD) = true) (bD : Binds K dD ["_law_held", "_law_many_here"] [])
    (GV : FnOk P w K mg pB CX0 3 fV dV ["_law_held"] spWord) (mV : mg "_law_word" = some (.ref fV)) (kV : PySem.W.keepIn K (.ref fV) = true) (bV : Binds K dV ["_law_held"] [])
    (mInt : mg "int" = none) (mT : mg "tuple" = none) (mR : mg "range" = none) : ∀ k, FnOk P w K mg pB CX0 (k + 4) f fd ["_law_held", "_law_within"] (spWor k)
  | 0 => step_wor F 0 ok_bot mG bG GD mD kD bD GV mV kV bV mInt mT mR
  | k + 1 => step_wor F (k + 1) (ok_wor F mG bG GD mD kD bD GV mV kV bV mInt mT mR k) mG bG GD mD kD bD GV mV kV bV mInt mT mR
end
end My

set_option Elab.async false
set_option linter.all false
set_option maxRecDepth 100000
set_option maxHeartbeats 4000000
namespace My
open PySem L2
section
variable {P : Program} {w : World} {K : PySem.W.Frag} {mg : Str → Option Value} {pB : Heap} {σ : L2.St} {H : Hp} {Q : VK} {x y : V}
theorem cons_c {v : V} {tr : TA} {σ : L2.St} {H : Hp} {Q : List V → Hp → Prop} (h : tr σ H fun xs H2 => Q (v :: xs) H2) : tCons (tC v) tr σ H Q := h
theorem rdT0 (h : ∀ p H', Same H H' → H' p = some (.tup []) → Q (.ref p) H') : tTup tNil σ H Q := ⟨by show 0 ≤ sizeLine; decide, fun t ht => h t _ (Same.new (Same.refl _) ht) upd_same⟩
theorem rdT1 (h : ∀ p H', Same H H' → H' p = some (.tup [x]) → Q (.ref p) H') : tTup (tCons (tC x) tNil) σ H Q := ⟨by show 1 ≤ sizeLine; decide, fun t ht => h t _ (Same.new (Same.refl _) ht) upd_same⟩
theorem rdT2 (h : ∀ p H', Same H H' → H' p = some (.tup [x, y]) → Q (.ref p) H') : tTup (tCons (tC x) (tCons (tC y) tNil)) σ H Q := ⟨by show 2 ≤ sizeLine; decide, fun t ht => h t _ (Same.new (Same.refl _) ht) upd_same⟩
theorem rdTT (h : ∀ q p H', Same H H' → H' q = some (.tup [x]) → H' p = some (.tup [.ref q]) → Q (.ref p) H') : tTup (tCons (tTup (tCons (tC x) tNil)) tNil) σ H Q :=
  rdT1 (σ := σ) (Q := fun z H1 => ([z] : List V).length ≤ sizeLine ∧ ∀ p, H1 p = none → Q (.ref p) (upd H1 p (.tup [z]))) fun q H1 s1 e1 => ⟨by show 1 ≤ sizeLine; decide, fun p hp => h q p _ (Same.new s1 hp) ((Same.new (Same.refl _) hp) _ _ e1) upd_same⟩
theorem rdL0 (h : ∀ p H', Same H H' → H' p = some (.lst []) → Q (.ref p) H') : tLst tNil σ H Q := ⟨by show 0 ≤ sizeLine; decide, fun t ht => h t _ (Same.new (Same.refl _) ht) upd_same⟩
theorem rdL2 (h : ∀ p H', Same H H' → H' p = some (.lst [x, y]) → Q (.ref p) H') : tLst (tCons (tC x) (tCons (tC y) tNil)) σ H Q := ⟨by show 2 ≤ sizeLine; decide, fun t ht => h t _ (Same.new (Same.refl _) ht) upd_same⟩
theorem rdLT (h : ∀ q p H', Same H H' → H' p = some (.lst [.ref q]) → Q (.ref p) H') : tLst (tCons (tTup (tCons (tC x) tNil)) tNil) σ H Q :=
  rdT1 (σ := σ) (Q := fun z H1 => ([z] : List V).length ≤ sizeLine ∧ ∀ p, H1 p = none → Q (.ref p) (upd H1 p (.lst [z]))) fun q H1 s1 e1 => ⟨by show 1 ≤ sizeLine; decide, fun p hp => h q p _ (Same.new s1 hp) upd_same⟩
theorem rdD (h : ∀ p H', Same H H' → H' p = some (.dK []) → Q (.ref p) H') : tDNewK σ H Q := fun t ht => h t _ (Same.new (Same.refl _) ht) upd_same
def oddV (p0 p1 p2 p3 p4 p5 p6 p7 : Addr) : List V :=
  [.non, .bl true, .bl false, .int (-1), .int 6, .int 1001, .int 1000000001, .int (-1000000001), .int (10 ^ (30 : Int).toNat), .str "", .str "A", .str "abcdefghi", .str "a b", .str "-",
   .str "say ", .ref p0, .ref p1, .ref p2, .ref p3, .ref p4, .ref p5, .ref p6, .ref p7, .str "echo", .int 0, .int 5, .int 1000, .str "a"]
def oddX : List PyData :=
  [.none, .bool true, .bool false, .int (-1), .int 6, .int 1001, .int 1000000001, .int (-1000000001), .int (10 ^ (30 : Int).toNat), .str "", .str "A", .str "abcdefghi", .str "a b", .str "-",
   .str "say ", .tuple [], .tuple [.str "say"], .tuple [.str "echo", .str "a"], .list [], .list [], .dict [], .tuple [.tuple [.str "echo"]], .list [], .str "echo", .int 0, .int 5, .int 1000, .str "a"]
theorem rep_b {H : Hp} {k : Nat} (b : Bool) : Rep H k (.bl b) (.bool b) := by cases k <;> rfl
theorem rep_l {H : Hp} {k : Nat} {a : Addr} {xs : List V} (h : H a = some (.lst xs)) : Rep H k (.ref a) (.list []) := by cases k <;> exact ⟨a, xs, rfl, h⟩
theorem rep_d {H : Hp} {k : Nat} {a : Addr} (h : H a = some (.dK [])) : Rep H k (.ref a) (.dict []) := by cases k <;> exact ⟨a, rfl, h⟩
theorem odd_pair {H : Hp} {p0 p1 p2 p3 p4 p5 p6 p7 q6 : Addr} {a3 a4 a7 : List V} (h0 : H p0 = some (.tup [])) (h1 : H p1 = some (.tup [.str "say"])) (h2 : H p2 = some (.tup [.str "echo", .str "a"])) (h3 : H p3 = some (.lst a3)) (h4 : H p4 = some (.lst a4)) (h5 : H p5 = some (.dK []))
    (g6 : H q6 = some (.tup [.str "echo"])) (h6 : H p6 = some (.tup [.ref q6])) (h7 : H p7 = some (.lst a7)) : Paired (fun v x => Rep H 2 v x ∧ szD x ≤ 20) (oddV p0 p1 p2 p3 p4 p5 p6 p7) oddX := by
  have S : ∀ x : Str, x.length ≤ 10 → Rep H 2 (.str x) (.str x) ∧ szD (.str x) ≤ 20 := fun x hx => ⟨rep_s x, by rw [szD]; omega⟩
  have I : ∀ i : Int, Rep H 2 (.int i) (.int i) ∧ szD (.int i) ≤ 20 := fun i => ⟨rep_i i, show 1 ≤ 20 by decide⟩
  refine .cons ⟨rep_n, by decide +kernel⟩ (.cons ⟨rep_b _, by decide +kernel⟩ (.cons ⟨rep_b _, by decide +kernel⟩ (.cons (I _) (.cons (I _) (.cons (I _) (.cons (I _) (.cons (I _) (.cons (I _) (.cons (S _ (by decide +kernel)) (.cons (S _ (by decide +kernel)) (.cons (S _ (by decide +kernel)) (.cons (S _ (by decide +kernel)) (.cons (S _ (by decide +kernel)) (.cons (S _ (by decide +kernel)) ?_))))))))))))))
  refine .cons ⟨rep_t h0 .nil, by decide +kernel⟩ (.cons ⟨rep_t h1 (.cons (rep_s _) .nil), by decide +kernel⟩ (.cons ⟨rep_t h2 (.cons (rep_s _) (.cons (rep_s _) .nil)), by decide +kernel⟩ (.cons ⟨rep_l h3, by decide +kernel⟩ (.cons ⟨rep_l h4, by decide +kernel⟩ (.cons ⟨rep_d h5, by decide +kernel⟩
    (.cons ⟨rep_t h6 (.cons (rep_t g6 (.cons (rep_s _) .nil)) .nil), by decide +kernel⟩ (.cons ⟨rep_l h7, by decide +kernel⟩ (.cons (S _ (by decide +kernel)) (.cons (I _) (.cons (I _) (.cons (I _) (.cons (S _ (by decide +kernel)) .nil))))))))))))
def spOdd : Sp := fun vs H Q _ => ∃ (d l : Addr) (ms : List Int) (n L : Int), vs = [.ref d] ∧ Pen H d l ms n L ∧ n < 2 ^ 39 ∧ ∀ (v : V) (x : PyData) (n' L' : Int) (H' : Hp), Rep H' 2 v x → szD x ≤ 20 → Dr H H' d l ms n n' L' 1 → Q v H'
end
end My

set_option Elab.async false
set_option linter.all false
set_option maxRecDepth 100000
set_option maxHeartbeats 4000000
namespace My
open PySem L2
section
variable {P : Program} {w : World} {K : PySem.W.Frag} {mg : Str → Option Value} {pB : Heap}
theorem pTake {α β : Type} {F : α → β → Prop} : ∀ {xs : List α} {ys : List β} (n : Nat), Paired F xs ys → Paired F (xs.take n) (ys.take n)
  | _, _, 0, _ => .nil
  | _, _, _ + 1, .nil => .nil
  | _, _, n + 1, .cons r t => .cons r (pTake n t)
theorem pDrop {α β : Type} {F : α → β → Prop} : ∀ {xs : List α} {ys : List β} (n : Nat), Paired F xs ys → Paired F (xs.drop n) (ys.drop n)
  | _, _, 0, r => r
  | _, _, _ + 1, .nil => .nil
  | _, _, n + 1, .cons _ t => pDrop n t
theorem pApp {α β : Type} {F : α → β → Prop} : ∀ {xs us : List α} {ys ws : List β}, Paired F xs ys → Paired F us ws → Paired F (xs ++ us) (ys ++ ws)
  | _, _, _, _, .nil, s => s
  | _, _, _, _, .cons r t, s => .cons r (pApp t s)
theorem pRev {α β : Type} {F : α → β → Prop} : ∀ {xs : List α} {ys : List β}, Paired F xs ys → Paired F xs.reverse ys.reverse
  | _, _, .nil => .nil
  | _, _, .cons r t => by
    rw [List.reverse_cons, List.reverse_cons]
    exact pApp (pRev t) (.cons r .nil)
theorem rd_cat {H : Hp} {Q : VK} {a b : Addr} {xs ys : List V} (ha : H a = some (.tup xs)) (hb : H b = some (.tup ys)) (hz : xs.length + ys.length ≤ sizeLine) (h : ∀ p H', Same H H' → H' p = some (.tup (xs ++ ys)) → Q (.ref p) H') : rCatA K (.ref a) (.ref b) H Q := by
  refine ⟨a, b, xs, ys, rfl, rfl, SqT.of ha, SqT.of hb, hz, fun e => ?_, fun _ e => ?_, fun _ _ p hp => h p _ (Same.new (Same.refl _) hp) upd_same⟩
  · exact h b H (Same.refl _) (by rw [hb, e]; rfl)
  · exact h a H (Same.refl _) (by rw [ha, e, List.append_nil])
theorem rd_slT {H : Hp} {Q : VK} {a : Addr} {xs : List V} {lo hi : Option Int} (ha : H a = some (.tup xs)) (h : ∀ p H', Same H H' → H' p = some (.tup (cutV xs lo hi)) → Q (.ref p) H') : rSlA K (.ref a) lo hi H Q := by
  refine ⟨a, xs, rfl, SqT.of ha, fun e => h a H (Same.refl _) ?_, fun _ p hp => h p _ (Same.new (Same.refl _) hp) upd_same⟩
  rw [ha]
  unfold cutV
  rw [e.1, e.2, List.drop_zero, Nat.sub_zero, List.take_length]
theorem cut_to (xs : List V) {k : Int} (h0 : 0 ≤ k) (h1 : k ≤ xs.length) : cutV xs none (some k) = xs.take k.toNat := by
  unfold cutV
  rw [HT.sIx_none, List.drop_zero, Nat.sub_zero]
  have e : HT.sIx xs.length xs.length (some k) = k.toNat := by
    show (if k < 0 then _ else min k.toNat xs.length) = _
    rw [if_neg (by omega)]; omega
  rw [e]
theorem cut_from (xs : List V) {k : Int} (h0 : 0 ≤ k) (h1 : k ≤ xs.length) : cutV xs (some k) none = xs.drop k.toNat := by
  unfold cutV
  have e : HT.sIx xs.length 0 (some k) = k.toNat := by
    show (if k < 0 then _ else min k.toNat xs.length) = _
    rw [if_neg (by omega)]; omega
  rw [HT.sIx_none, e, List.take_of_length_le]
  rw [List.length_drop]; omega
theorem szL_at {ds : List PyData} {i : Nat} {e : PyData} (h : ds[i]? = some e) : szL ds = szL (ds.take i) + szD e + szL (ds.drop (i + 1)) := by
  have hl : i < ds.length := (List.getElem?_eq_some_iff.mp h).1
  have e1 : ds.drop i = e :: ds.drop (i + 1) := by
    rw [List.drop_eq_getElem_cons hl]
    rw [List.getElem?_eq_getElem hl] at h
    rw [Option.some.inj h]
  rw [← szL_td ds i, e1, szL]; omega
theorem par_of {ta : TA} {i j : Nat} {b : TS} {D : Ends} {σ : L2.St} {H : Hp} (h : ta σ H fun vs H1 => ∃ v w, vs = [v, w] ∧ b D ((σ.set i (some v)).set j (some w)) H1) : tSeq (tPar i j ta) b D σ H := h
theorem np_of {σ : L2.St} {H : Hp} {Q : Option Int → Hp → Prop} (h : Q none H) : tNoPart σ H Q := h
theorem nxt_r {b : TS} {D : Ends} {σ : L2.St} {H : Hp} (h : b D σ H) : tNext { D with nx := b D } σ H := h
def bB (m : Nat) : Int := 10 * ((m : Int) + 1)
def spBent (m : Nat) : Sp := fun vs H Q _ => ∃ (d l : Addr) (ms : List Int) (n L : Int) (v : V) (x : PyData), vs = [.ref d, v] ∧ Pen H d l ms n L ∧ n + bB m < 2 ^ 39 ∧ Rep H m v x ∧ szD x ≤ 1000000 ∧
  ∀ (v' : V) (x' : PyData) (n' L' : Int) (H' : Hp), Rep H' (m + 2) v' x' → szD x' ≤ 2 * szD x + 20 → Dr H H' d l ms n n' L' (bB m) → Q v' H'
def spPrevB : Nat → Sp
  | 0 => spBot
  | m + 1 => spBent m
end
end My

set_option Elab.async false
set_option linter.all false
set_option maxRecDepth 100000
set_option maxHeartbeats 4000000
namespace My
open PySem L2
/-! ### what a script is -/
/-- the kinds of a deed's parts -/
inductive Kd
  | w | k | r | e | i | v | n | S | s
  deriving DecidableEq
def kname : Kd → Str
  | .w => "word" | .k => "count" | .r => "rank" | .e => "gap" | .i => "due" | .v => "worth" | .n => "names" | .S => "script" | .s => "perhaps"
def ksign : Kd → Nat
  | .w => 119 | .k => 107 | .r => 114 | .e => 101 | .i => 105 | .v => 118 | .n => 110 | .S => 83 | .s => 115
def formL : List (Str × List Kd) :=
  [("say", [.w]), ("echo", []), ("spend", [.k]), ("post", [.r, .w, .S]), ("micro", [.S]), ("after", [.k, .r, .w, .S]), ("every", [.e, .r, .w, .S]), ("idle", [.i, .w, .S]), ("stop", [.w]), ("rerank", [.w, .r]),
   ("make", [.w]), ("keep", [.w, .v]), ("pass", [.w]), ("break", [.w, .w]), ("follow", [.w, .w]), ("then", [.w, .w, .s, .s]), ("all", [.w, .n]), ("any", [.w, .n]), ("first", [.w, .n]), ("each", [.w, .n]), ("give", [.v]),
   ("fail", [.w]), ("guard", [.S, .s, .S]), ("if", [.w, .S, .S]), ("wait", [.w]), ("run", [.w]), ("story", [.w, .S]), ("cancel", [.w]), ("yield", [.r]), ("call", [.w])]
def formOf (x : Str) : Option (List Kd) := (formL.find? fun p => decide (p.1 = x)).map (·.2)
def nmD : PyData → Bool
  | .tuple ds => decide (ds.length ≤ 8) && ds.all wdD
  | _ => false
def partOk : Kd → PyData → Bool
  | .w, d => wdD d
  | .k, d => btw 0 1000 d
  | .r, d => btw 0 5 d
  | .e, d => btw 1 1000 d
  | .i, d => isNon d || btw 0 1000 d
  | .v, d => isW 4 d
  | .n, d => nmD d
  | _, _ => false
def isScr : Kd → Bool
  | .S => true
  | .s => true
  | _ => false
/-- how many deeds a part has, by what a script has in it -/
def partB (f : PyData → Option Nat) (k : Kd) (d : PyData) : Option Nat :=
  if isScr k = true then (if k = .s ∧ isNon d = true then some 0 else f d) else if partOk k d = true then some 0 else none
def sumO : List (Option Nat) → Option Nat
  | [] => some 0
  | none :: _ => none
  | some a :: l => (sumO l).map (a + ·)
def deedB (f : PyData → Option Nat) : PyData → Option Nat
  | .tuple (.str x :: ps) => match formOf x with
    | some ks => if ps.length = ks.length then sumO (List.zipWith (partB f) ks ps) else none
    | none => none
  | _ => none
def cnt : Nat → PyData → Option Nat
  | 0, _ => none
  | n + 1, .tuple ds => (sumO (ds.map (deedB (cnt n)))).map (ds.length + ·)
  | _ + 1, _ => none
section
variable {P : Program} {w : World} {K : PySem.W.Frag} {mg : Str → Option Value} {pB : Heap}
def spTest (t : PyData → Bool) : Sp := fun vs H Q _ => ∃ (m : Nat) (v : V) (d : PyData), vs = [v] ∧ Rep H m v d ∧ szD d ≤ 1000000 ∧ ∀ H', Same H H' → Q (.bl (t d)) H'
abbrev sNames : Stmt := top 21
theorem scNames : FnScope ["thing", "name"] ["thing"] (defScope sNames) := ⟨rfl, rfl, rfl, by decide +kernel, rfl, by decide +kernel, by decide +kernel⟩
theorem ok_names {f fW : Addr} {fd dW : FuncData} {tk2 : Tok} (F : Fun K "is_names" "is_names" sNames f fd)
    (GW : FnOk P w K mg pB CX0 1 fW dW ["thing"] spIsWord) (mW : mg "is_word" = some (.ref fW)) (kW : PySem.W.keepIn K (.ref fW) = true) (bW : Binds K dW ["thing"] [])
    (mI : mg "isinstance" = none) (mT : mg "tuple" = none) (mLen : mg "len" = none) (mAll : mg "all" = none) (mM : mg "MOST_NAMES" = some (.int 8 tk2)) : FnOk P w K mg pB CX0 2 f fd ["thing"] (spTest nmD) := by
  refine F.ok scNames (fun vs H Q E h => ?_) (fun cdv A outer s H vs Q E hr h => ?_)
  · obtain ⟨m, v, d, rfl, _⟩ := h
    rfl
  · obtain ⟨m, v, d, rfl, hR, hz, k⟩ := h
    have nd := scNames.nd
    refine ⟨_, pss_cons (ps_if (PW.pt (pw_or (pt_not (pt_val (pe_callB call_isi (by rfl) mI (by decide +kernel) (pa_cons (pv 0) (pa_cons (pe_bltn (by rfl) mT (by decide +kernel) (show RelV (.ty "tuple") (.type "tuple") from rfl)) pa_nil)))))
          (pw_or1 (pt_cmpR op_gt (pe_callB call_len_seq (by rfl) mLen PySem.boot_len (pa_cons (pv 0) pa_nil)) (pe_glob (by rfl) mM (show RelV (.int 8) _ from ⟨_, rfl⟩)) (nomark _)))))
        (pss_one (ps_ret pe_bl)) pss_nil)
      (pss_one (ps_ret (pe_callB (cr_all rfl) (by rfl) mAll (by decide +kernel) (pa_cons
        (pe_lc (own := [("name", 1)]) (g := gName 1) (tt := tYes) (te := tCall spIsWord [] E0 (tCons (tVar 1) tNil)) rfl nd (pi_tup (pv 0))
          (blkOk_by (N := ["thing", "name"]) (sc := defScope sNames) (by decide +kernel)) (fun _ _ _ _ _ => pg_name (i := 1) nd rfl (Or.inl rfl) (Or.inr rfl)) (fun _ _ _ _ _ => pts_nil)
          (fun _ _ _ _ _ => pe_call GW hr rfl mW kW bW .nil pass0 (pa_cons (pv 1) pa_nil))) pa_nil)))), ?_⟩
    refine rd_isi (.inr (.inr (.inr rfl))) rfl hR ⟨_, rfl, ?_⟩
    rcases @notTup d with ⟨ds, rfl⟩ | hn
    · refine iteB0 rfl ?_
      obtain ⟨m', a, xs, rfl, rfl, ha, hp⟩ := rep_tup hR
      have hlen := Paired.length hp
      refine ⟨_, rfl, a, xs, rfl, .inr (SqT.of ha), _, _, rfl, rfl, _, rfl, ?_⟩
      by_cases h8 : ds.length ≤ 8
      · refine iteB0 (decide_eq_false (by omega)) ?_
        refine ⟨_, rfl, a, rfl, ⟨_, SqT.of ha⟩, fun D hD => ?_⟩
        refine lc_tup (K := K) (xs := xs) (fun i H' => Same H H' ∧ H' D = some (.lst ((ds.take i).map fun e => V.bl (wdD e)))) ⟨Same.new (Same.refl _) hD, upd_same⟩ (fun i H' _ p => SqT.of (p.1 _ _ ha)) (fun i x H' hx p => ?_) (fun H' p => ?_)
        · obtain ⟨p1, p2⟩ := p
          obtain ⟨e, he, hre⟩ := Paired.at hp hx
          have hsz : szD e ≤ 1000000 := by
            have h1 := szL_get he
            rw [szD] at hz
            omega
          refine ⟨rfl, yes_of (iteT ?_)⟩
          refine ⟨_, rfl, m', x, e, rfl, hre.same p1, hsz, fun H2 s2 => ⟨_, s2 _ _ p2, ?_, ?_⟩⟩
          · rw [List.length_map]
            refine Nat.lt_of_le_of_lt (List.length_take_le' _ _) (Nat.lt_of_le_of_lt h8 (by decide))
          · refine ⟨fun b o ec => ?_, ?_⟩
            · rw [upd_ne (ne_of_none ec hD)]; exact s2 _ _ (p1 b o ec)
            · rw [upd_same, take_snoc he, List.map_append]; rfl
        · obtain ⟨p1, p2⟩ := p
          rw [hlen, List.take_length] at p2
          refine ⟨D, ds.map wdD, rfl, SqL.of (by rw [p2, List.map_map]; rfl), ?_⟩
          have e2 : nmD (.tuple ds) = (ds.map wdD).all id := by
            rw [nmD, decide_eq_true h8, Bool.true_and, List.all_map]; rfl
          have := k H' p1
          rw [e2] at this
          exact this
      · refine iteB1 (decide_eq_true (by omega)) ?_
        have e2 : nmD (.tuple ds) = false := by
          rw [nmD, decide_eq_false h8]; rfl
        have := k H (Same.refl _)
        rw [e2] at this
        exact this
    · refine iteB1 (by cases d <;> first | rfl | exact absurd rfl (hn _)) (iteT ?_)
      have e2 : nmD d = false := by cases d <;> first | rfl | exact absurd rfl (hn _)
      have := k H (Same.refl _)
      rw [e2] at this
      exact this
abbrev sRank : Stmt := top 22
abbrev sCount : Stmt := top 23
abbrev sGap : Stmt := top 24
abbrev sDue : Stmt := top 25
theorem scRank : FnScope ["thing"] ["thing"] (defScope sRank) := ⟨rfl, rfl, rfl, by decide +kernel, rfl, by decide +kernel, by decide +kernel⟩
theorem scCount : FnScope ["thing"] ["thing"] (defScope sCount) := ⟨rfl, rfl, rfl, by decide +kernel, rfl, by decide +kernel, by decide +kernel⟩
theorem scGap : FnScope ["thing"] ["thing"] (defScope sGap) := ⟨rfl, rfl, rfl, by decide +kernel, rfl, by decide +kernel, by decide +kernel⟩
theorem scDue : FnScope ["thing"] ["thing"] (defScope sDue) := ⟨rfl, rfl, rfl, by decide +kernel, rfl, by decide +kernel, by decide +kernel⟩
theorem ok_rank {f fB : Addr} {fd dB : FuncData} {tk : Tok} (F : Fun K "is_rank" "is_rank" sRank f fd)
    (GB : FnOk P w K mg pB CX0 1 fB dB ["thing", "least", "most"] spBtw) (mB : mg "is_between" = some (.ref fB)) (kB : PySem.W.keepIn K (.ref fB) = true) (bB : Binds K dB ["thing", "least", "most"] []) (mM : mg "LAST_RANK" = some (.int 5 tk)) : FnOk P w K mg pB CX0 2 f fd ["thing"] (spTest (btw 0 5)) := by
  refine F.ok scRank (fun vs H Q E h => ?_) (fun cdv A outer s H vs Q E hr h => ?_)
  · obtain ⟨m, v, d, rfl, _⟩ := h
    rfl
  · obtain ⟨m, v, d, rfl, hR, hz, k⟩ := h
    refine ⟨_, pss_one (ps_ret (pe_call GB hr rfl mB kB bB .nil pass0 (pa_cons (pv 0) (pa_cons pe_int (pa_cons (pe_glob (by rfl) mM (show RelV (.int 5) _ from ⟨_, rfl⟩)) pa_nil))))), ?_⟩
    exact ⟨_, rfl, m, v, d, 0, 5, rfl, hR, k H (Same.refl _)⟩
theorem ok_count {f fB : Addr} {fd dB : FuncData} {tk : Tok} (F : Fun K "is_count" "is_count" sCount f fd)
    (GB : FnOk P w K mg pB CX0 1 fB dB ["thing", "least", "most"] spBtw) (mB : mg "is_between" = some (.ref fB)) (kB : PySem.W.keepIn K (.ref fB) = true) (bB : Binds K dB ["thing", "least", "most"] []) (mM : mg "MOST_COUNT" = some (.int 1000 tk)) : FnOk P w K mg pB CX0 2 f fd ["thing"] (spTest (btw 0 1000)) := by
  refine F.ok scCount (fun vs H Q E h => ?_) (fun cdv A outer s H vs Q E hr h => ?_)
  · obtain ⟨m, v, d, rfl, _⟩ := h
    rfl
  · obtain ⟨m, v, d, rfl, hR, hz, k⟩ := h
    refine ⟨_, pss_one (ps_ret (pe_call GB hr rfl mB kB bB .nil pass0 (pa_cons (pv 0) (pa_cons pe_int (pa_cons (pe_glob (by rfl) mM (show RelV (.int 1000) _ from ⟨_, rfl⟩)) pa_nil))))), ?_⟩
    exact ⟨_, rfl, m, v, d, 0, 1000, rfl, hR, k H (Same.refl _)⟩
theorem ok_gap {f fB : Addr} {fd dB : FuncData} {tk : Tok} (F : Fun K "is_gap" "is_gap" sGap f fd)
    (GB : FnOk P w K mg pB CX0 1 fB dB ["thing", "least", "most"] spBtw) (mB : mg "is_between" = some (.ref fB)) (kB : PySem.W.keepIn K (.ref fB) = true) (bB : Binds K dB ["thing", "least", "most"] []) (mM : mg "MOST_COUNT" = some (.int 1000 tk)) : FnOk P w K mg pB CX0 2 f fd ["thing"] (spTest (btw 1 1000)) := by
  refine F.ok scGap (fun vs H Q E h => ?_) (fun cdv A outer s H vs Q E hr h => ?_)
  · obtain ⟨m, v, d, rfl, _⟩ := h
    rfl
  · obtain ⟨m, v, d, rfl, hR, hz, k⟩ := h
    refine ⟨_, pss_one (ps_ret (pe_call GB hr rfl mB kB bB .nil pass0 (pa_cons (pv 0) (pa_cons pe_int (pa_cons (pe_glob (by rfl) mM (show RelV (.int 1000) _ from ⟨_, rfl⟩)) pa_nil))))), ?_⟩
    exact ⟨_, rfl, m, v, d, 1, 1000, rfl, hR, k H (Same.refl _)⟩
theorem ok_due {f fC : Addr} {fd dC : FuncData} (F : Fun K "is_due" "is_due" sDue f fd)
    (GC : FnOk P w K mg pB CX0 2 fC dC ["thing"] (spTest (btw 0 1000))) (mC : mg "is_count" = some (.ref fC)) (kC : PySem.W.keepIn K (.ref fC) = true) (bC : Binds K dC ["thing"] []) : FnOk P w K mg pB CX0 3 f fd ["thing"] (spTest fun d => isNon d || btw 0 1000 d) := by
  refine F.ok scDue (fun vs H Q E h => ?_) (fun cdv A outer s H vs Q E hr h => ?_)
  · obtain ⟨m, v, d, rfl, _⟩ := h
    rfl
  · obtain ⟨m, v, d, rfl, hR, hz, k⟩ := h
    refine ⟨_, pss_one (ps_ret (pe_or (pe_cmp (pc_isN (pv 0)) rfl) (pe_one (pe_call GC hr rfl mC kC bC .nil pass0 (pa_cons (pv 0) pa_nil))))), ?_⟩
    refine ⟨_, rfl, _, rfl, ?_⟩
    rw [rep_nonn hR]
    cases hnn : isNon d with
    | true =>
      have : Q (.bl (isNon d || btw 0 1000 d)) H := k H (Same.refl _)
      rw [hnn] at this
      exact iteT this
    | false =>
      refine iteF ⟨_, rfl, m, v, d, rfl, hR, hz, fun H1 s1 => ?_⟩
      have : Q (.bl (isNon d || btw 0 1000 d)) H1 := k H1 s1
      rw [hnn, Bool.false_or] at this
      exact this
end
end My

set_option Elab.async false
set_option linter.all false
set_option maxRecDepth 100000
set_option maxHeartbeats 4000000
namespace My
open PySem L2
section
variable {P : Program} {w : World} {K : PySem.W.Frag} {mg : Str → Option Value} {pB : Heap}
/-- the module's table of deeds -/
structure Deeds (K : PySem.W.Frag) (w : World) (mg : Str → Option Value) (dA : Addr) (es : Array DictEntry) (n : Nat) : Prop where
  m : mg "DEEDS" = some (.ref dA)
  kd : KDict K w dA es n
  at_ : ∀ x ks, formOf x = some ks → ∃ t, PySem.W.nsIn K dA x = some (some (.ref t)) ∧ ∀ H, SqT K H t (ks.map fun k => V.str (kname k))
  no : ∀ x, formOf x = none → PySem.W.nsIn K dA x = some none
theorem Deeds.get {dA : Addr} {es : Array DictEntry} {n : Nat} (D : Deeds K w mg dA es n) {x : Str} {ks : List Kd} (h : formOf x = some ks) : ∃ t, PySem.W.nsIn K dA x = some (some (.ref t)) ∧ KDct K w dA x (.ref t) ∧ ∀ H, SqT K H t (ks.map fun k => V.str (kname k)) := by
  obtain ⟨t, e, hs⟩ := D.at_ x ks h
  exact ⟨t, e, ⟨es, n, .ref t, D.kd.at_, D.kd.lit, e, rfl⟩, hs⟩
def hasF : PyData → Bool
  | .tuple (.str x :: ps) => match formOf x with
    | some ks => decide (ps.length = ks.length)
    | none => false
  | _ => false
theorem rd_isiX {H : Hp} {Q : VK} {m : Nat} {T : String} {v : V} {d : PyData} (hT : T = "str" ∨ T = "int" ∨ T = "bool" ∨ T = "tuple") (r : Rep H m v d) (h : Q (.bl (isTy T d)) H) : rIsi K [v, .ty T] H Q := ⟨v, .ty T, .type (tyN d), .type T, _, rfl, .ty T, r.ty, kit_ty (kit_T hT d), h⟩
end
end My

set_option Elab.async false
set_option linter.all false
set_option maxRecDepth 100000
set_option maxHeartbeats 4000000
namespace My
open PySem L2
section
variable {P : Program} {w : World} {K : PySem.W.Frag} {mg : Str → Option Value} {pB : Heap}
/-- the module's table of checks -/
structure Checks (P : Program) (w : World) (K : PySem.W.Frag) (mg : Str → Option Value) (pB : Heap) (cA : Addr) : Prop where
  m : mg "CHECKS" = some (.ref cA)
  at_ : ∀ k, isScr k = false → ∃ f, KDct K w cA (kname k) (.ref f) ∧ C8.CalAt P w K mg pB 7 f (spTest (partOk k))
def spFits : Sp := fun vs H Q _ => ∃ (m : Nat) (v : V) (d : PyData) (k : Kd), vs = [.str (kname k), v] ∧ isScr k = false ∧ Rep H m v d ∧ szD d ≤ 1000000 ∧ ∀ H', Same H H' → Q (.bl (partOk k d)) H'
abbrev sFits : Stmt := top 31
theorem scFits : FnScope ["kind", "part", "check"] ["kind", "part"] (defScope sFits) := ⟨rfl, rfl, rfl, by decide +kernel, rfl, by decide +kernel, by decide +kernel⟩
theorem ok_fits {f cA : Addr} {fd : FuncData} (F : Fun K "fits" "fits" sFits f fd) (C : Checks P w K mg pB cA) : FnOk P w K mg pB CX0 8 f fd ["kind", "part"] spFits := by
  refine F.ok scFits (fun vs H Q E h => ?_) (fun cdv A outer s H vs Q E hr h => ?_)
  · obtain ⟨m, v, d, k, rfl, _⟩ := h
    rfl
  · obtain ⟨m, v, d, kd, rfl, hk, hR, hz, k⟩ := h
    have nd := scFits.nd
    refine ⟨_, pss_cons (ps_set (i := 2) nd rfl (Or.inl rfl) (pe_ix ix_kdict (pe_glob (by rfl) C.m (show RelV (.ref cA) _ from rfl)) (pv 0) (fun _ _ => rfl)))
      (pss_one (ps_ret (pe_cvA (Ok := fun f sp => C8.CalAt P w K mg pB 7 f sp) (i := 2) (fun f sp h => h) hr rfl (Or.inl rfl) (pa_cons (pv 1) pa_nil)))), ?_⟩
    obtain ⟨f, e1, e2⟩ := C.at_ kd hk
    refine asg_n ⟨_, rfl, cA, _, .ref f, rfl, rfl, e1, ?_⟩
    exact ⟨f, _, rfl, e2, _, rfl, m, v, d, rfl, hR, hz, k⟩
end
end My

set_option Elab.async false
set_option linter.all false
set_option maxRecDepth 100000
set_option maxHeartbeats 4000000
namespace My
open PySem L2
section
variable {P : Program} {w : World} {K : PySem.W.Frag} {mg : Str → Option Value} {pB : Heap}
def resV (o : Option Nat) (room : Int) : V := match o with
  | some c => if (c : Int) ≤ room then .int (room - c) else .non
  | none => .non
def spRoom (n : Nat) : Sp := fun vs H Q _ => ∃ (m : Nat) (v : V) (d : PyData) (room : Int), vs = [v, .int (n : Int), .int room] ∧ Rep H m v d ∧ szD d ≤ 1000000 ∧ 0 ≤ room ∧ ∀ H', Same H H' → Q (resV (cnt n d) room) H'
def spRoomD (n : Nat) : Sp := fun vs H Q _ => ∃ (m : Nat) (v : V) (x : Str) (ps : List PyData) (ks : List Kd) (room : Int), vs = [v, .int (n : Int), .int room] ∧ formOf x = some ks ∧ Rep H m v (.tuple (.str x :: ps)) ∧ szD (.tuple (.str x :: ps)) ≤ 1000000 ∧ 0 ≤ room ∧ ∀ H', Same H H' → Q (resV (deedB (cnt n) (.tuple (.str x :: ps))) room) H'
theorem sumO_app : ∀ (as bs : List (Option Nat)), sumO (as ++ bs) = match sumO as with | some a => (sumO bs).map (a + ·) | none => none
  | [], bs => by
    show sumO bs = (sumO bs).map (0 + ·)
    cases sumO bs <;> simp
  | none :: as, bs => rfl
  | some a :: as, bs => by
    show (sumO (as ++ bs)).map (a + ·) = match (sumO as).map (a + ·) with | some a => (sumO bs).map (a + ·) | none => none
    rw [sumO_app as bs]
    cases sumO as with
    | none => rfl
    | some c =>
      show ((sumO bs).map (c + ·)).map (a + ·) = (sumO bs).map (a + c + ·)
      cases sumO bs with
      | none => rfl
      | some e => show some (a + (c + e)) = some (a + c + e); rw [Nat.add_assoc]
/-- what stops in the middle stops the whole -/
theorem sumO_stop {l : List (Option Nat)} {j c : Nat} {o : Option Nat} {room : Int} (hj : l[j]? = some o) (hc : sumO (l.take j) = some c) (ho : ∀ e, o = some e → room < (c + e : Int)) : resV (sumO l) room = .non := by
  have hl : j < l.length := (List.getElem?_eq_some_iff.mp hj).1
  have e1 : l = l.take j ++ (o :: l.drop (j + 1)) := by
    rw [List.getElem?_eq_getElem hl] at hj
    rw [← Option.some.inj hj, ← List.drop_eq_getElem_cons hl, List.take_append_drop]
  rw [e1, sumO_app, hc]
  cases o with
  | none => rfl
  | some e =>
    show resV (((sumO (l.drop (j + 1))).map (e + ·)).map (c + ·)) room = .non
    cases sumO (l.drop (j + 1)) with
    | none => rfl
    | some g =>
      have := ho e rfl
      show (if ((c + (e + g) : Nat) : Int) ≤ room then _ else _) = _
      rw [if_neg (by omega)]
theorem sumO_snoc {l : List (Option Nat)} {j c e : Nat} (hj : l[j]? = some (some e)) (hc : sumO (l.take j) = some c) : sumO (l.take (j + 1)) = some (c + e) := by
  rw [take_snoc hj, sumO_app, hc]
  rfl
abbrev sRoomD : Stmt := top 30
theorem aug_n {te : TE} {ti : TIp} {i : Nat} {b : TS} {D : Ends} {σ : L2.St} {H : Hp} (h : ∃ x, σ[i]? = some (some x) ∧ te σ H fun y H1 => ti x y H1 fun z H2 => b D (σ.set i (some z)) H2) : tSeq (tAug i te ti) b D σ H := h
theorem scRoomD : FnScope ["deed", "levels", "room", "kinds", "at", "kind", "part"] ["deed", "levels", "room"] (defScope sRoomD) := ⟨rfl, rfl, rfl, by decide +kernel, rfl, by decide +kernel, by decide +kernel⟩
theorem step_roomD {f fW fF fR dA : Addr} {fd dW dF dR : FuncData} {es : Array DictEntry} {nn : Nat} (F : Fun K "room_behind_parts" "room_behind_parts" sRoomD f fd) (n : Nat) (D : Deeds K w mg dA es nn)
    (GW : FnOk P w K mg pB CX0 1 fW dW ["thing"] spIsWord) (mW : mg "is_word" = some (.ref fW)) (kW : PySem.W.keepIn K (.ref fW) = true) (bW' : Binds K dW ["thing"] [])
    (GF : FnOk P w K mg pB CX0 8 fF dF ["kind", "part"] spFits) (mF : mg "fits" = some (.ref fF)) (kF : PySem.W.keepIn K (.ref fF) = true) (bF : Binds K dF ["kind", "part"] [])
    (GR : FnOk P w K mg pB CX0 (10 + 2 * n) fR dR ["thing", "levels", "room"] (spRoom n)) (mR : mg "room_behind" = some (.ref fR)) (kR : PySem.W.keepIn K (.ref fR) = true) (bR : Binds K dR ["thing", "levels", "room"] [])
    (mLen : mg "len" = none) : FnOk P w K mg pB CX0 (11 + 2 * n) f fd ["deed", "levels", "room"] (spRoomD n) := by
  rw [show 11 + 2 * n = (10 + 2 * n) + 1 by omega]
  refine F.ok scRoomD (fun vs H Q E h => ?_) (fun cdv A outer s H vs Q E hr h => ?_)
  · obtain ⟨m, v, x, ps, ks, room, rfl, _⟩ := h
    rfl
  · obtain ⟨m, v, x, ps, ks, room, rfl, hfm, hR, hz, h0, k⟩ := h
    have nd := scRoomD.nd
    have hr1 : Room 1 _ := hr.mono (by omega)
    have hr8 : Room 8 _ := hr.mono (by omega)
    have pD : ∀ {X : Cx} {p : Pos}, Gl X "DEEDS" → X.mg "DEEDS" = some (.ref dA) → PE X (.Name "DEEDS" p) (tC (.ref dA)) := fun hg hm => pe_glob hg hm (show RelV (.ref dA) _ from rfl)
    refine ⟨_, pss_cons (ps_set (i := 3) nd rfl (Or.inl rfl) (pe_ix ix_kdict (pD (by rfl) D.m) (pe_ix ix_tup (pv 0) pe_int (fun _ _ => rfl)) (fun _ _ => rfl)))
      (pss_cons (ps_if (pt_cmpR op_ne (pe_callB call_len_seq (by rfl) mLen PySem.boot_len (pa_cons (pv 0) pa_nil)) (pe_op op_add pe_int (pe_callB call_len_seq (by rfl) mLen PySem.boot_len (pa_cons (pv 3) pa_nil))) (nomark _)) (pss_one (ps_ret pe_non)) pss_nil)
      (pss_cons (ps_set (i := 4) nd rfl (Or.inl rfl) pe_int)
      (pss_cons (ps_for PassesOwn.never rfl (pi_tup (pv 3)) (pg_name (i := 5) nd rfl (Or.inl rfl))
        (pss_cons (ps_aug (i := 4) nd rfl (.inl rfl) pe_int ip_add)
        (pss_cons (ps_set (i := 6) nd rfl (Or.inl rfl) (pe_ix ix_tup (pv 0) (pv 4) (fun _ _ => rfl)))
        (pss_one (ps_if (pt_cmpR op_eq (pv 5) pe_str (nomark _))
          (pss_one (ps_if (pt_not (pt_val (pe_call GW hr1 rfl mW kW bW' .nil pass0 (pa_cons (pv 6) pa_nil)))) (pss_one (ps_ret pe_non)) pss_nil))
          (pss_one (ps_if (PW.pt (pw_or (pt_cmpR op_eq (pv 5) pe_str (nomark _)) (pw_or1 (PW.pt (pw_and (pt_cmpR op_eq (pv 5) pe_str (nomark _)) (pw_and1 (pt_cmp (pc_notN (pv 6)))))))))
            (pss_cons (ps_set (i := 2) nd rfl (Or.inl rfl) (pe_call GR hr rfl mR kR bR .nil pass0 (pa_cons (pv 6) (pa_cons (pv 1) (pa_cons (pv 2) pa_nil))))) (pss_one (ps_if (pt_cmp (pc_isN (pv 2))) (pss_one (ps_ret pe_non)) pss_nil)))
            (pss_one (ps_if (PW.pt (pw_and (pt_cmpR op_ne (pv 5) pe_str (nomark _)) (pw_and1 (pt_not (pt_val (pe_call GF hr8 rfl mF kF bF .nil pass0 (pa_cons (pv 5) (pa_cons (pv 6) pa_nil)))))))) (pss_one (ps_ret pe_non)) pss_nil)))))))))
      (pss_one (ps_ret (pv 2)))))), ?_⟩
    obtain ⟨m', a, xs, rfl, e9, ha, hp⟩ := rep_tup hR
    have hzs : szL ps ≤ 1000000 := by
      rw [szD, szL] at hz
      omega
    cases hp with
    | @cons y0 e0' us ps' hx0 hpu =>
    cases rep_str hx0
    have hlu := Paired.length hpu
    obtain ⟨t, e1, e2, e3⟩ := D.get hfm
    subst e9
    refine asg_n ⟨_, rfl, a, _, 0, _, rfl, rfl, SqT.of ha, atI_nat (xs := V.str x :: us) (j := 0) (v := .str x) rfl, dA, x, .ref t, rfl, rfl, e2, ?_⟩
    refine ⟨_, rfl, a, _, rfl, .inr (SqT.of ha), _, rfl, t, _, rfl, .inr (e3 H), _, _, rfl, rfl, rfl, _, rfl, ?_⟩
    have ed : deedB (cnt n) (.tuple (.str x :: ps)) = if ps.length = ks.length then sumO (List.zipWith (partB (cnt n)) ks ps) else none := by
      show (match formOf x with | some ks => if ps.length = ks.length then sumO (List.zipWith (partB (cnt n)) ks ps) else none | none => none) = _
      rw [hfm]
    by_cases hlen : ps.length = ks.length
    case neg =>
      refine iteB1 ?_ ?_
      · rw [List.length_cons, List.length_map]
        show (!decide _) = true
        rw [decide_eq_false]; · rfl
        intro z
        have := V.int.inj z
        omega
      · have := k H (Same.refl _)
        rw [ed, if_neg hlen] at this
        exact this
    have e0 : deedB (cnt n) (.tuple (.str x :: ps)) = sumO (List.zipWith (partB (cnt n)) ks ps) := by rw [ed, if_pos hlen]
    rw [e0] at k
    refine iteB0 ?_ (nxt_of ?_)
    · rw [List.length_cons, List.length_map]
      show (!decide _) = false
      rw [decide_eq_true]; · rfl
      congr 1
      omega
    refine asg_n ?_
    refine ⟨_, rfl, t, rfl, ⟨_, e3 H⟩, for_tup (xs := ks.map fun k => V.str (kname k)) (fun j σ H3 => ∃ (c : Nat) (x4 x5 : Option V), σ = [some (.ref a), some (.int (n : Int)), some (.int (room - (c : Int))), some (.ref t), some (.int (j : Nat)), x4, x5] ∧ Same H H3 ∧ sumO ((List.zipWith (partB (cnt n)) ks ps).take j) = some c ∧ (c : Int) ≤ room) ?_ ?_ ?_ ?_⟩
    · refine ⟨0, none, none, ?_, Same.refl _, rfl, h0⟩
      rw [show room - ((0 : Nat) : Int) = room by omega]
      rfl
    · rintro j σ H3 _ ⟨c, x4, x5, rfl, s3, _⟩
      exact e3 H3
    · rintro j y σ H3 hy ⟨c, x4, x5, rfl, s3, hc, hcr⟩
      rw [List.getElem?_map] at hy
      obtain ⟨kd, hkd, rfl⟩ := Option.map_eq_some_iff.mp hy
      have hj : j < ks.length := (List.getElem?_eq_some_iff.mp hkd).1
      have hu : us[j]? = some us[j] := List.getElem?_eq_getElem (by omega)
      generalize us[j] = u at hu
      obtain ⟨e, he, hre⟩ := Paired.at hpu hu
      have hre3 := hre.same s3
      have hsz : szD e ≤ 1000000 := Nat.le_trans (szL_get he) hzs
      have hL : (List.zipWith (partB (cnt n)) ks ps)[j]? = some (partB (cnt n) kd e) := by
        rw [List.getElem?_zipWith, hkd, he]
      have hat : atI (V.str x :: us) ((j : Nat) + 1 : Int) = some u := by
        have := atI_nat (xs := V.str x :: us) (j := j + 1) (v := u) (by rw [List.getElem?_cons_succ]; exact hu)
        simpa using this
      have h3 : SqT K H3 a (V.str x :: us) := SqT.of (s3 _ _ ha)
      have t1 : decide (V.str (kname kd) = V.str "word") = decide (kd = .w) := by cases kd <;> decide +kernel
      have t3 : decide (V.str (kname kd) = V.str "script") = decide (kd = .S) := by cases kd <;> decide +kernel
      have t4 : decide (V.str (kname kd) = V.str "perhaps") = decide (kd = .s) := by cases kd <;> decide +kernel
      have stop : ∀ H', Same H3 H' → (∀ g, partB (cnt n) kd e = some g → room < (c + g : Int)) → Q .non H' := fun H' s' hg => by
        have := k H' (s3.trans s')
        rw [sumO_stop hL hc hg] at this
        exact this
      have done0 : ∀ H4, Same H3 H4 → partB (cnt n) kd e = some 0 → ∃ (c' : Nat) (x4 x5 : Option V), [some (V.ref a), some (.int (n : Int)), some (.int (room - (c : Int))), some (.ref t), some (.int ((j : Nat) + 1)), some (.str (kname kd)), some u] = [some (V.ref a), some (.int (n : Int)), some (.int (room - (c' : Int))), some (.ref t), some (.int ((j + 1 : Nat) : Int)), x4, x5] ∧ Same H H4 ∧ sumO ((List.zipWith (partB (cnt n)) ks ps).take (j + 1)) = some c' ∧ (c' : Int) ≤ room := fun H4 s4 h0' =>
        ⟨c, _, _, rfl, s3.trans s4, by have := sumO_snoc (e := 0) (by rw [hL, h0']) hc; simpa using this, hcr⟩
      refine aug_n ⟨_, rfl, _, _, rfl, rfl, ?_⟩
      refine asg_n ⟨_, rfl, _, rfl, a, _, _, u, rfl, rfl, h3, hat, ?_⟩
      refine ⟨_, rfl, rfl, _, rfl, ?_⟩
      by_cases hw : kd = .w
      · have hpB : partB (cnt n) kd e = if wdD e = true then some 0 else none := by rw [hw]; rfl
        refine iteB1 (by rw [t1]; exact decide_eq_true hw) ⟨_, rfl, m', u, e, rfl, hre3, hsz, fun H4 s4 => ⟨_, rfl, ?_⟩⟩
        rcases Bool.eq_false_or_eq_true (wdD e) with ho | ho
        · exact iteB0 (by rw [ho]; rfl) (done0 H4 s4 (by rw [hpB, if_pos ho]))
        · exact iteB1 (by rw [ho]; rfl) (stop H4 s4 fun g hg => by rw [hpB, if_neg (by rw [ho]; decide)] at hg; cases hg)
      · refine iteB0 (by rw [t1]; exact decide_eq_false hw) ?_
        refine ⟨_, rfl, rfl, _, rfl, ?_⟩
        by_cases hS : kd = .S
        · have hpB : partB (cnt n) kd e = cnt n e := by rw [partB, if_pos (by rw [hS]; rfl), if_neg (fun z => by rw [hS] at z; cases z.1)]
          refine iteB1 (by rw [t3]; exact decide_eq_true hS) (iteT ?_)
          refine asg_n (call_of ⟨_, rfl, _, rfl, _, rfl, m', u, e, room - (c : Int), rfl, hre3, hsz, by omega, fun H4 s4 => ?_⟩)
          cases hce : cnt n e with
          | none => exact ⟨_, rfl, _, rfl, iteT (stop H4 s4 fun g hg => by rw [hpB, hce] at hg; cases hg)⟩
          | some g =>
            by_cases hg : (g : Int) ≤ room - (c : Int)
            · have e1 : resV (some g) (room - (c : Int)) = .int (room - (c : Int) - g) := if_pos hg
              rw [e1]
              refine ⟨_, rfl, _, rfl, iteF ?_⟩
              refine ⟨c + g, some (.str (kname kd)), some u, ?_, s3.trans s4, sumO_snoc (by rw [hL, hpB, hce]) hc, by omega⟩
              rw [show room - ((c + g : Nat) : Int) = room - (c : Int) - (g : Int) by omega]
              rfl
            · have e1 : resV (some g) (room - (c : Int)) = .non := if_neg hg
              rw [e1]
              exact ⟨_, rfl, _, rfl, iteT (stop H4 s4 fun g' hg' => by rw [hpB, hce] at hg'; cases hg'; omega)⟩
        · refine iteB0 (by rw [t3]; exact decide_eq_false hS) ?_
          refine ⟨_, rfl, rfl, _, rfl, ?_⟩
          by_cases hs : kd = .s
          · have hk : isScr kd = true := by rw [hs]; rfl
            refine iteB1 (by rw [t4]; exact decide_eq_true hs) ?_
            refine ⟨_, rfl, _, rfl, ?_⟩
            rw [rep_nonn hre3]
            rcases Bool.eq_false_or_eq_true (isNon e) with hn | hn
            · refine iteB0 (by rw [hn]; rfl) ?_
              refine ⟨_, rfl, rfl, _, rfl, iteB0 (by rw [t4, decide_eq_true hs]; rfl) ?_⟩
              exact iteF (done0 H3 (Same.refl _) (by rw [partB, if_pos hk, if_pos ⟨hs, hn⟩]))
            · have hpB : partB (cnt n) kd e = cnt n e := by rw [partB, if_pos hk, if_neg (fun z => by rw [hn] at z; cases z.2)]
              refine iteB1 (by rw [hn]; rfl) ?_
              refine asg_n (call_of ⟨_, rfl, _, rfl, _, rfl, m', u, e, room - (c : Int), rfl, hre3, hsz, by omega, fun H4 s4 => ?_⟩)
              cases hce : cnt n e with
              | none => exact ⟨_, rfl, _, rfl, iteT (stop H4 s4 fun g hg => by rw [hpB, hce] at hg; cases hg)⟩
              | some g =>
                by_cases hg : (g : Int) ≤ room - (c : Int)
                · have e1 : resV (some g) (room - (c : Int)) = .int (room - (c : Int) - g) := if_pos hg
                  rw [e1]
                  refine ⟨_, rfl, _, rfl, iteF ?_⟩
                  refine ⟨c + g, some (.str (kname kd)), some u, ?_, s3.trans s4, sumO_snoc (by rw [hL, hpB, hce]) hc, by omega⟩
                  rw [show room - ((c + g : Nat) : Int) = room - (c : Int) - (g : Int) by omega]
                  rfl
                · have e1 : resV (some g) (room - (c : Int)) = .non := if_neg hg
                  rw [e1]
                  exact ⟨_, rfl, _, rfl, iteT (stop H4 s4 fun g' hg' => by rw [hpB, hce] at hg'; cases hg'; omega)⟩
          · have hk : isScr kd = false := by cases kd <;> first | rfl | exact absurd rfl hS | exact absurd rfl hs
            have hpB : partB (cnt n) kd e = if partOk kd e = true then some 0 else none := by rw [partB, if_neg (by rw [hk]; decide)]
            refine iteB0 (by rw [t4]; exact decide_eq_false hs) (iteF ?_)
            refine ⟨_, rfl, rfl, _, rfl, iteB1 (by rw [t4, decide_eq_false hs]; rfl) ⟨_, rfl, _, rfl, m', u, e, kd, rfl, hk, hre3, hsz, fun H4 s4 => ⟨_, rfl, ?_⟩⟩⟩
            rcases Bool.eq_false_or_eq_true (partOk kd e) with ho | ho
            · exact iteB0 (by rw [ho]; rfl) (done0 H4 s4 (by rw [hpB, if_pos ho]))
            · exact iteB1 (by rw [ho]; rfl) (stop H4 s4 fun g hg => by rw [hpB, if_neg (by rw [ho]; decide)] at hg; cases hg)
    · rintro σ H3 ⟨c, x4, x5, rfl, s3, hc, hcr⟩
      have hfull : (List.zipWith (partB (cnt n)) ks ps).take (ks.map fun k => V.str (kname k)).length = List.zipWith (partB (cnt n)) ks ps := by
        rw [List.take_of_length_le]
        rw [List.length_zipWith, List.length_map]
        omega
      rw [hfull] at hc
      refine ⟨_, rfl, ?_⟩
      have := k H3 s3
      rw [hc] at this
      have e1 : resV (some c) room = .int (room - c) := if_pos hcr
      rw [e1] at this
      exact this
end
end My

set_option Elab.async false
set_option linter.all false
set_option maxRecDepth 100000
set_option maxHeartbeats 4000000
namespace My
open PySem L2
section
variable {P : Program} {w : World} {K : PySem.W.Frag} {mg : Str → Option Value} {pB : Heap}
def spPrevD : Nat → Sp
  | 0 => spBot
  | n + 1 => spRoomD n
abbrev sRoom : Stmt := top 29
theorem scRoom : FnScope ["thing", "levels", "room", "deed"] ["thing", "levels", "room"] (defScope sRoom) := ⟨rfl, rfl, rfl, by decide +kernel, rfl, by decide +kernel, by decide +kernel⟩
theorem resV_add {l : Nat} {o : Option Nat} {room : Int} (h : (l : Int) ≤ room) : resV (o.map (l + ·)) room = resV o (room - l) := by
  cases o with
  | none => rfl
  | some c =>
    show (if ((l + c : Nat) : Int) ≤ room then V.int (room - ((l + c : Nat) : Int)) else .non) = (if (c : Int) ≤ room - l then V.int (room - l - c) else .non)
    by_cases hc : (c : Int) ≤ room - l
    · rw [if_pos hc, if_pos (by omega)]
      congr 1
      omega
    · rw [if_neg hc, if_neg (by omega)]
theorem resV_big {l : Nat} {o : Option Nat} {room : Int} (h : ¬ (l : Int) ≤ room) : resV (o.map (l + ·)) room = .non := by
  cases o with
  | none => rfl
  | some c =>
    show (if ((l + c : Nat) : Int) ≤ room then V.int (room - ((l + c : Nat) : Int)) else .non) = .non
    rw [if_neg (by omega)]
theorem step_room {f fD dA : Addr} {fd dD : FuncData} {es : Array DictEntry} {nn : Nat} (F : Fun K "room_behind" "room_behind" sRoom f fd) (n : Nat) (D : Deeds K w mg dA es nn)
    (GD : FnOk P w K mg pB CX0 (9 + 2 * n) fD dD ["deed", "levels", "room"] (spPrevD n)) (mD : mg "room_behind_parts" = some (.ref fD)) (kD : PySem.W.keepIn K (.ref fD) = true) (bD : Binds K dD ["deed", "levels", "room"] [])
    (mI : mg "isinstance" = none) (mT : mg "tuple" = none) (mS : mg "str" = none) (mLen : mg "len" = none) : FnOk P w K mg pB CX0 (10 + 2 * n) f fd ["thing", "levels", "room"] (spRoom n) := by
  rw [show 10 + 2 * n = (9 + 2 * n) + 1 by omega]
  refine F.ok scRoom (fun vs H Q E h => ?_) (fun cdv A outer s H vs Q E hr h => ?_)
  · obtain ⟨m, v, d, room, rfl, _⟩ := h
    rfl
  · obtain ⟨m, v, d, room, rfl, hR, hz, h0, k⟩ := h
    have nd := scRoom.nd
    have pD : ∀ {X : Cx} {p : Pos}, Gl X "DEEDS" → X.mg "DEEDS" = some (.ref dA) → PE X (.Name "DEEDS" p) (tC (.ref dA)) := fun hg hm => pe_glob hg hm (show RelV (.ref dA) _ from rfl)
    refine ⟨_, pss_cons (ps_if (PW.pt (pw_or (pt_not (pt_val (pe_callB call_isi (by rfl) mI (by decide +kernel) (pa_cons (pv 0) (pa_cons (pe_bltn (by rfl) mT (by decide +kernel) (show RelV (.ty "tuple") (.type "tuple") from rfl)) pa_nil)))))
        (pw_or (pt_cmpR op_eq (pv 1) pe_int (nomark _)) (pw_or1 (pt_cmpR op_gt (pe_callB call_len_seq (by rfl) mLen PySem.boot_len (pa_cons (pv 0) pa_nil)) (pv 2) (nomark _))))))
        (pss_one (ps_ret pe_non)) pss_nil)
      (pss_cons (ps_aug (i := 2) nd rfl (.inl rfl) (pe_callB call_len_seq (by rfl) mLen PySem.boot_len (pa_cons (pv 0) pa_nil)) ip_sub)
      (pss_cons (ps_for PassesOwn.never rfl (pi_tup (pv 0)) (pg_name (i := 3) nd rfl (Or.inl rfl))
        (pss_cons (ps_if (PW.pt (pw_or (pt_not (pt_val (pe_callB call_isi (by rfl) mI (by decide +kernel) (pa_cons (pv 3) (pa_cons (pe_bltn (by rfl) mT (by decide +kernel) (show RelV (.ty "tuple") (.type "tuple") from rfl)) pa_nil)))))
          (pw_or (pt_not (pt_truth (pv 3) (by intro _; rfl)))
          (pw_or (pt_not (pt_val (pe_callB call_isi (by rfl) mI (by decide +kernel) (pa_cons (pe_ix ix_tup (pv 3) pe_int (fun _ _ => rfl)) (pa_cons (pe_bltn (by rfl) mS (by decide +kernel) (show RelV (.ty "str") (.type "str") from rfl)) pa_nil)))))
          (pw_or1 (pt_cmpR (op_notIn_kd D.kd) (pe_ix ix_tup (pv 3) pe_int (fun _ _ => rfl)) (pD (by rfl) D.m) (by rfl)))))))
          (pss_one (ps_ret pe_non)) pss_nil)
        (pss_cons (ps_set (i := 2) nd rfl (Or.inl rfl) (pe_call GD hr rfl mD kD bD .nil pass0 (pa_cons (pv 3) (pa_cons (pe_op op_sub (pv 1) pe_int) (pa_cons (pv 2) pa_nil)))))
          (pss_one (ps_if (pt_cmp (pc_isN (pv 2))) (pss_one (ps_ret pe_non)) pss_nil)))))
      (pss_one (ps_ret (pv 2))))), ?_⟩
    have out : resV (cnt n d) room = .non → Q .non H := fun e => by
      have := k H (Same.refl _)
      rw [e] at this
      exact this
    refine rd_isi (.inr (.inr (.inr rfl))) rfl hR ⟨_, rfl, ?_⟩
    rcases @notTup d with ⟨ds, rfl⟩ | hn
    · refine iteB0 rfl ?_
      obtain ⟨m', a, xs, rfl, rfl, ha, hp⟩ := rep_tup hR
      have hlen := Paired.length hp
      cases n with
      | zero => exact ⟨_, rfl, rfl, _, rfl, iteY rfl (iteT (out rfl))⟩
      | succ n =>
        refine ⟨_, rfl, rfl, _, rfl, iteN (by intro z; have := V.int.inj z; omega) ?_⟩
        refine ⟨_, rfl, a, xs, rfl, .inr (SqT.of ha), _, rfl, _, _, rfl, rfl, _, rfl, ?_⟩
        by_cases hl : (ds.length : Int) ≤ room
        · refine iteB0 (decide_eq_false (by omega)) (nxt_of (aug_n ?_))
          refine ⟨_, rfl, _, rfl, a, xs, rfl, .inr (SqT.of ha), _, _, rfl, rfl, ?_⟩
          have k' : ∀ H', Same H H' → Q (resV (sumO (ds.map (deedB (cnt n)))) (room - ds.length)) H' := fun H' s' => by
            have := k H' s'
            rw [cnt, resV_add hl] at this
            exact this
          have hzs : szL ds ≤ 1000000 := by rw [szD] at hz; omega
          refine ⟨_, rfl, a, rfl, ⟨_, SqT.of ha⟩, for_tup (xs := xs) (fun j σ H3 => ∃ (c : Nat) (x3 : Option V), σ = [some (.ref a), some (.int ((n + 1 : Nat) : Int)), some (.int (room - (ds.length : Int) - (c : Int))), x3] ∧ Same H H3 ∧ sumO ((ds.map (deedB (cnt n))).take j) = some c ∧ (c : Int) ≤ room - ds.length) ?_ ?_ ?_ ?_⟩
          · refine ⟨0, none, ?_, Same.refl _, rfl, by omega⟩
            rw [hlen, show room - (ds.length : Int) - ((0 : Nat) : Int) = room - (ds.length : Int) by omega]
            rfl
          · rintro j σ H3 _ ⟨c, x3, rfl, s3, _⟩
            exact SqT.of (s3 _ _ ha)
          · rintro j y σ H3 hy ⟨c, x3, rfl, s3, hc, hcr⟩
            obtain ⟨e, he, hre⟩ := Paired.at hp hy
            have hsz : szD e ≤ 1000000 := Nat.le_trans (szL_get he) hzs
            have hL : (ds.map (deedB (cnt n)))[j]? = some (deedB (cnt n) e) := by rw [List.getElem?_map, he]; rfl
            have stop : ∀ H', Same H3 H' → (∀ g, deedB (cnt n) e = some g → room - ds.length < (c + g : Int)) → Q .non H' := fun H' s' hg => by
              have := k' H' (s3.trans s')
              rw [sumO_stop hL hc hg] at this
              exact this
            have hre3 := hre.same s3
            have bad : deedB (cnt n) e = none → Q .non H3 := fun z => stop H3 (Same.refl _) fun g hg => by rw [z] at hg; cases hg
            refine rd_isi (.inr (.inr (.inr rfl))) rfl hre3 ⟨_, rfl, ?_⟩
            rcases @notTup e with ⟨es', rfl⟩ | hn
            case inr =>
              refine iteB1 (by cases e <;> first | rfl | exact absurd rfl (hn _)) (iteT (bad ?_))
              cases e <;> first | rfl | exact absurd rfl (hn _)
            refine iteB0 rfl ?_
            obtain ⟨m2, b, zs, rfl, rfl, hb, hpb⟩ := rep_tup hre3
            refine ⟨_, rfl, _, .inr (.inl ⟨zs, SqT.of hb, rfl⟩), ?_⟩
            cases hpb with
            | nil => exact iteB1 rfl (iteT (bad rfl))
            | @cons z0 e0 zs ds' hr0 hpb =>
            refine iteB0 rfl ?_
            have hat : atI (z0 :: zs) 0 = some z0 := atI_nat (xs := z0 :: zs) (j := 0) (v := z0) rfl
            refine ⟨_, rfl, b, _, 0, z0, rfl, rfl, SqT.of hb, hat, z0, .ty "str", .type (tyN e0), .type "str", _, rfl, .ty "str", hr0.ty, kit_ty (kit_T (.inl rfl) e0), _, rfl, ?_⟩
            by_cases hst : ∃ y, e0 = .str y
            case neg =>
              refine iteB1 (by cases e0 <;> first | rfl | exact absurd ⟨_, rfl⟩ hst) (iteT (bad ?_))
              cases e0 <;> first | rfl | exact absurd ⟨_, rfl⟩ hst
            obtain ⟨x, rfl⟩ := hst
            cases rep_str hr0
            refine iteB0 rfl ?_
            cases hf : formOf x with
            | none =>
              refine ⟨_, rfl, b, _, 0, _, rfl, rfl, SqT.of hb, hat, x, none, rfl, rfl, D.no x hf, _, rfl, iteB1 rfl (bad ?_)⟩
              show (match formOf x with | some ks => if ds'.length = ks.length then sumO (List.zipWith (partB (cnt n)) ks ds') else none | none => none) = none
              rw [hf]
            | some ks =>
              obtain ⟨t, e1, e2, e3⟩ := D.get hf
              refine ⟨_, rfl, b, _, 0, _, rfl, rfl, SqT.of hb, hat, x, some (.ref t), rfl, rfl, e1, _, rfl, iteB0 rfl (nxt_of ?_)⟩
              refine asg_n (call_of ⟨_, rfl, _, rfl, _, _, rfl, rfl, _, rfl, m2 + 1, .ref b, x, ds', ks, room - (ds.length : Int) - (c : Int), ?_, hf, hre3, hsz, by omega, fun H4 s4 => ?_⟩)
              · show [V.ref b, V.int (((n + 1 : Nat) : Int) - 1), V.int (room - (ds.length : Int) - (c : Int))] = [V.ref b, V.int (n : Int), V.int (room - (ds.length : Int) - (c : Int))]
                rw [show (((n + 1 : Nat) : Int) - 1) = (n : Int) by omega]
              cases hce : deedB (cnt n) (.tuple (.str x :: ds')) with
              | none => exact ⟨_, rfl, _, rfl, iteT (stop H4 s4 fun g hg => by rw [hce] at hg; cases hg)⟩
              | some g =>
                by_cases hg : (g : Int) ≤ room - (ds.length : Int) - (c : Int)
                · have e1 : resV (some g) (room - (ds.length : Int) - (c : Int)) = .int (room - (ds.length : Int) - (c : Int) - g) := if_pos hg
                  rw [e1]
                  refine ⟨_, rfl, _, rfl, iteF ?_⟩
                  refine ⟨c + g, some (.ref b), ?_, s3.trans s4, sumO_snoc (by rw [hL, hce]) hc, by omega⟩
                  rw [show room - (ds.length : Int) - ((c + g : Nat) : Int) = room - (ds.length : Int) - (c : Int) - (g : Int) by omega]
                  rfl
                · have e1 : resV (some g) (room - (ds.length : Int) - (c : Int)) = .non := if_neg hg
                  rw [e1]
                  exact ⟨_, rfl, _, rfl, iteT (stop H4 s4 fun g' hg' => by rw [hce] at hg'; cases hg'; omega)⟩
          · rintro σ H3 ⟨c, x3, rfl, s3, hc, hcr⟩
            have hfull : (ds.map (deedB (cnt n))).take xs.length = ds.map (deedB (cnt n)) := by
              rw [List.take_of_length_le]
              rw [List.length_map]; omega
            rw [hfull] at hc
            refine ⟨_, rfl, ?_⟩
            have := k' H3 s3
            rw [hc] at this
            have e1 : resV (some c) (room - ds.length) = .int (room - ds.length - c) := if_pos hcr
            rw [e1] at this
            exact this
        · refine iteB1 (decide_eq_true (by omega)) (out ?_)
          rw [cnt, resV_big hl]
    · refine iteB1 (by cases d <;> first | rfl | exact absurd rfl (hn _)) (iteT (out ?_))
      cases n with
      | zero => rfl
      | succ n => cases d <;> first | rfl | exact absurd rfl (hn _)
end
end My

set_option Elab.async false
set_option linter.all false
set_option maxRecDepth 100000
set_option maxHeartbeats 4000000
namespace My
open PySem L2
section
variable {P : Program} {w : World} {K : PySem.W.Frag} {mg : Str → Option Value} {pB : Heap}
theorem ok_rooms {f fR fW fF dA : Addr} {fd dR dW dF : FuncData} {es : Array DictEntry} {nn : Nat} (F : Fun K "room_behind_parts" "room_behind_parts" sRoomD f fd) (mD : mg "room_behind_parts" = some (.ref f)) (bD : Binds K fd ["deed", "levels", "room"] [])
    (FR : Fun K "room_behind" "room_behind" sRoom fR dR) (mR : mg "room_behind" = some (.ref fR)) (bR : Binds K dR ["thing", "levels", "room"] []) (D : Deeds K w mg dA es nn)
    (GW : FnOk P w K mg pB CX0 1 fW dW ["thing"] spIsWord) (mW : mg "is_word" = some (.ref fW)) (kW : PySem.W.keepIn K (.ref fW) = true) (bW' : Binds K dW ["thing"] [])
    (GF : FnOk P w K mg pB CX0 8 fF dF ["kind", "part"] spFits) (mF : mg "fits" = some (.ref fF)) (kF : PySem.W.keepIn K (.ref fF) = true) (bF : Binds K dF ["kind", "part"] [])
    (mI : mg "isinstance" = none) (mT : mg "tuple" = none) (mS : mg "str" = none) (mLen : mg "len" = none) :
    ∀ n, FnOk P w K mg pB CX0 (10 + 2 * n) fR dR ["thing", "levels", "room"] (spRoom n) ∧ FnOk P w K mg pB CX0 (11 + 2 * n) f fd ["deed", "levels", "room"] (spRoomD n)
  | 0 => by
    have r := step_room FR 0 (P := P) (pB := pB) D (ok_bot (f := f) (fd := fd)) mD F.kp bD mI mT mS mLen
    exact ⟨r, step_roomD F 0 D GW mW kW bW' GF mF kF bF r mR FR.kp bR mLen⟩
  | n + 1 => by
    have h := ok_rooms F mD bD FR mR bR D GW mW kW bW' GF mF kF bF mI mT mS mLen n
    have r := step_room FR (n + 1) D (h.2.mono (by omega)) mD F.kp bD mI mT mS mLen
    exact ⟨r, step_roomD F (n + 1) D GW mW kW bW' GF mF kF bF r mR FR.kp bR mLen⟩
def isS (d : PyData) : Bool := match cnt 5 d with
  | some c => decide (c ≤ 200)
  | none => false
theorem isS_res (d : PyData) : (!decide (resV (cnt 5 d) 200 = .non)) = isS d := by
  unfold isS
  cases cnt 5 d with
  | none => rfl
  | some c =>
    show (!decide ((if ((c : Nat) : Int) ≤ 200 then V.int (200 - (c : Int)) else .non) = .non)) = decide (c ≤ 200)
    by_cases h : c ≤ 200
    · rw [if_pos (by omega), decide_eq_true h]
      rfl
    · rw [if_neg (by omega), decide_eq_false h]
      rfl
abbrev sIsScript : Stmt := top 28
theorem scIsScript : FnScope ["thing"] ["thing"] (defScope sIsScript) := ⟨rfl, rfl, rfl, by decide +kernel, rfl, by decide +kernel, by decide +kernel⟩
theorem ok_isscript {f fR : Addr} {fd dR : FuncData} {tk tk2 : Tok} (F : Fun K "is_script" "is_script" sIsScript f fd)
    (GR : FnOk P w K mg pB CX0 20 fR dR ["thing", "levels", "room"] (spRoom 5)) (mR : mg "room_behind" = some (.ref fR)) (kR : PySem.W.keepIn K (.ref fR) = true) (bR : Binds K dR ["thing", "levels", "room"] [])
    (mL : mg "SCRIPT_LEVELS" = some (.int 5 tk)) (mM : mg "MOST_DEEDS" = some (.int 200 tk2)) : FnOk P w K mg pB CX0 21 f fd ["thing"] (spTest isS) := by
  refine F.ok scIsScript (fun vs H Q E h => ?_) (fun cdv A outer s H vs Q E hr h => ?_)
  · obtain ⟨m, v, d, rfl, _⟩ := h
    rfl
  · obtain ⟨m, v, d, rfl, hR, hz, k⟩ := h
    refine ⟨_, pss_one (ps_ret (pe_cmp (pc_notN (pe_call GR hr rfl mR kR bR .nil pass0 (pa_cons (pv 0) (pa_cons (pe_glob (by rfl) mL (show RelV (.int 5) _ from ⟨_, rfl⟩)) (pa_cons (pe_glob (by rfl) mM (show RelV (.int 200) _ from ⟨_, rfl⟩)) pa_nil))))) rfl)), ?_⟩
    refine ⟨_, rfl, m, v, d, 200, rfl, hR, hz, by decide, fun H1 s1 => ?_⟩
    show Q (.bl (!decide (resV (cnt 5 d) 200 = .non))) H1
    rw [isS_res]
    exact k H1 s1
end
end My

set_option Elab.async false
set_option linter.all false
set_option maxRecDepth 100000
set_option maxHeartbeats 4000000
namespace My
open PySem L2
section
variable {P : Program} {w : World} {K : PySem.W.Frag} {mg : Str → Option Value} {pB : Heap}
/-! ### the law's own table of forms -/
def ksignS (ks : List Kd) : Str := ⟨(ks.map ksign).toArray⟩
def formK : List (Key × V) := formL.map fun p => (Sum.inr p.1, V.str (ksignS p.2))
def fk (x : Str) (y : Str) : Key × V := (Sum.inr x, V.str y)
def fk1 : List (Key × V) := [fk "say" "w", fk "echo" "", fk "spend" "k", fk "post" "rwS", fk "micro" "S", fk "after" "krwS", fk "every" "erwS"]
def fk2 : List (Key × V) := [fk "idle" "iwS", fk "stop" "w", fk "rerank" "wr", fk "make" "w", fk "keep" "wv", fk "pass" "w", fk "break" "ww"]
def fk3 : List (Key × V) := [fk "follow" "ww", fk "then" "wwss", fk "all" "wn", fk "any" "wn", fk "first" "wn", fk "each" "wn", fk "give" "v"]
def fk4 : List (Key × V) := [fk "fail" "w", fk "guard" "SsS", fk "if" "wSS", fk "wait" "w", fk "run" "w", fk "story" "wS", fk "cancel" "w"]
def fk5 : List (Key × V) := [fk "yield" "r", fk "call" "w"]
def spForms : Sp := fun vs H Q _ => vs = [] ∧ ∀ (p : Addr) (H' : Hp), Same H H' → H' p = some (.dK formK) → Q (.ref p) H'
abbrev sForms : Stmt := top 51
theorem scForms : FnScope ["_law_some"] [] (defScope sForms) := ⟨rfl, rfl, rfl, by decide +kernel, rfl, by decide +kernel, by decide +kernel⟩
/-! ### the law's look at a part -/
def spIsPart : Sp := fun vs H Q _ => ∃ (m : Nat) (v : V) (d : PyData) (k : Kd), vs = [.str ⟨#[ksign k]⟩, v] ∧ isScr k = false ∧ Rep H m v d ∧ szD d ≤ 1000000 ∧ ∀ H', Same H H' → Q (.bl (partOk k d)) H'
abbrev sIsPart : Stmt := top 57
theorem scIsPart : FnScope ["_law_kind", "_law_thing", "_law_one"] ["_law_kind", "_law_thing"] (defScope sIsPart) := ⟨rfl, rfl, rfl, by decide +kernel, rfl, by decide +kernel, by decide +kernel⟩
theorem ok_ispart {f fW fT fB : Addr} {fd dW dT dB : FuncData} (F : Fun K "_law_is_part" "_law_is_part" sIsPart f fd)
    (GW : FnOk P w K mg pB CX0 1 fW dW ["_law_thing"] spIsWord) (mW : mg "_law_is_word" = some (.ref fW)) (kW : PySem.W.keepIn K (.ref fW) = true) (bW : Binds K dW ["_law_thing"] [])
    (GT : FnOk P w K mg pB CX0 6 fT dT ["_law_thing", "_law_left"] (spWth 4)) (mG : mg "_law_is_worth" = some (.ref fT)) (kT : PySem.W.keepIn K (.ref fT) = true) (bT : Binds K dT ["_law_thing", "_law_left"] [])
    (GB : FnOk P w K mg pB CX0 1 fB dB ["_law_thing", "_law_least", "_law_most"] spBtw) (mB : mg "_law_is_from" = some (.ref fB)) (kB : PySem.W.keepIn K (.ref fB) = true) (bB : Binds K dB ["_law_thing", "_law_least", "_law_most"] [])
    (mI : mg "isinstance" = none) (mT : mg "tuple" = none) (mLen : mg "len" = none) (mAll : mg "all" = none) (mInt : mg "int" = none) : FnOk P w K mg pB CX0 7 f fd ["_law_kind", "_law_thing"] spIsPart := by
  refine F.ok scIsPart (fun vs H Q E h => ?_) (fun cdv A outer s H vs Q E hr h => ?_)
  · obtain ⟨m, v, d, k, rfl, _⟩ := h
    rfl
  · obtain ⟨m, v, d, kd, rfl, hk, hR, hz, k⟩ := h
    have nd := scIsPart.nd
    have hr1 : Room 1 _ := hr.mono (by decide)
    refine ⟨_, pss_cons (ps_if (pt_cmpR op_eq (pv 0) pe_str (nomark _)) (pss_one (ps_ret (pe_call GW hr1 rfl mW kW bW .nil pass0 (pa_cons (pv 1) pa_nil)))) pss_nil)
      (pss_cons (ps_if (pt_cmpR op_eq (pv 0) pe_str (nomark _)) (pss_one (ps_ret (pe_and (pe_callB call_isi (by rfl) mI (by decide +kernel) (pa_cons (pv 1) (pa_cons (pe_bltn (by rfl) mT (by decide +kernel) (show RelV (.ty "tuple") (.type "tuple") from rfl)) pa_nil)))
          (pe_and (pe_cmpR op_le (pe_callB call_len_seq (by rfl) mLen PySem.boot_len (pa_cons (pv 1) pa_nil)) pe_int (nomark _))
            (pe_one (pe_callB (cr_all rfl) (by rfl) mAll (by decide +kernel) (pa_cons (pe_lc (own := [("_law_one", 2)]) (g := gName 2) (tt := tYes) (te := tCall spIsWord [] E0 (tCons (tVar 2) tNil)) rfl nd (pi_tup (pv 1))
              (blkOk_by (N := ["_law_kind", "_law_thing", "_law_one"]) (sc := defScope sIsPart) (by decide +kernel)) (fun _ _ _ _ _ => pg_name (i := 2) nd rfl (Or.inl rfl) (Or.inr rfl)) (fun _ _ _ _ _ => pts_nil)
              (fun _ _ _ _ _ => pe_call GW hr1 rfl mW kW bW .nil pass0 (pa_cons (pv 2) pa_nil))) pa_nil))))))) pss_nil)
      (pss_cons (ps_if (pt_cmpR op_eq (pv 0) pe_str (nomark _)) (pss_one (ps_ret (pe_call GT hr rfl mG kT bT .nil pass0 (pa_cons (pv 1) (pa_cons pe_int pa_nil))))) pss_nil)
      (pss_cons (ps_if (pt_cmpR op_eq (pv 0) pe_str (nomark _)) (pss_one (ps_ret (pe_call GB hr1 rfl mB kB bB .nil pass0 (pa_cons (pv 1) (pa_cons pe_int (pa_cons pe_int pa_nil)))))) pss_nil)
      (pss_one (ps_ret (pe_or (pe_and (pe_cmpR op_eq (pv 0) pe_str (nomark _)) (pe_one (pe_cmp (pc_isN (pv 1)) rfl)))
        (pe_one (pe_call GB hr1 rfl mB kB bB .nil pass0 (pa_cons (pv 1) (pa_cons (pe_callTy call_int1 (by rfl) mInt (by decide +kernel) (pa_cons (pe_cmpR op_eq (pv 0) pe_str (nomark _)) pa_nil)) (pa_cons pe_int pa_nil))))))))))), ?_⟩
    cases kd with
    | S => cases hk
    | s => cases hk
    | w => exact ⟨_, rfl, rfl, _, rfl, iteB1 (by decide +kernel) ⟨_, rfl, m, v, d, rfl, hR, hz, k⟩⟩
    | v => exact ⟨_, rfl, rfl, _, rfl, iteB0 (by decide +kernel) ⟨_, rfl, rfl, _, rfl, iteB0 (by decide +kernel) ⟨_, rfl, rfl, _, rfl, iteB1 (by decide +kernel) ⟨_, rfl, m, v, d, rfl, hR, hz, k⟩⟩⟩⟩
    | r => exact ⟨_, rfl, rfl, _, rfl, iteB0 (by decide +kernel) ⟨_, rfl, rfl, _, rfl, iteB0 (by decide +kernel) ⟨_, rfl, rfl, _, rfl, iteB0 (by decide +kernel) ⟨_, rfl, rfl, _, rfl, iteB1 (by decide +kernel) ⟨_, rfl, m, v, d, 0, 5, rfl, hR, k H (Same.refl _)⟩⟩⟩⟩⟩
    | k =>
      refine ⟨_, rfl, rfl, _, rfl, iteB0 (by decide +kernel) ⟨_, rfl, rfl, _, rfl, iteB0 (by decide +kernel) ⟨_, rfl, rfl, _, rfl, iteB0 (by decide +kernel) ⟨_, rfl, rfl, _, rfl, iteB0 (by decide +kernel) ⟨_, rfl, rfl, _, rfl, iteB0 (by decide +kernel) ⟨_, rfl, iteF ⟨_, rfl, _, rfl, rfl, .inr ⟨_, rfl, m, v, d, 0, 1000, ?_, hR, k H (Same.refl _)⟩⟩⟩⟩⟩⟩⟩⟩
      exact congrArg (fun z : Int => [v, V.int z, V.int 1000]) (by decide +kernel)
    | e =>
      refine ⟨_, rfl, rfl, _, rfl, iteB0 (by decide +kernel) ⟨_, rfl, rfl, _, rfl, iteB0 (by decide +kernel) ⟨_, rfl, rfl, _, rfl, iteB0 (by decide +kernel) ⟨_, rfl, rfl, _, rfl, iteB0 (by decide +kernel) ⟨_, rfl, rfl, _, rfl, iteB0 (by decide +kernel) ⟨_, rfl, iteF ⟨_, rfl, _, rfl, rfl, .inr ⟨_, rfl, m, v, d, 1, 1000, ?_, hR, k H (Same.refl _)⟩⟩⟩⟩⟩⟩⟩⟩
      exact congrArg (fun z : Int => [v, V.int z, V.int 1000]) (by decide +kernel)
    | i =>
      have k' : Q (.bl (isNon d || btw 0 1000 d)) H := k H (Same.refl _)
      refine ⟨_, rfl, rfl, _, rfl, iteB0 (by decide +kernel) ⟨_, rfl, rfl, _, rfl, iteB0 (by decide +kernel) ⟨_, rfl, rfl, _, rfl, iteB0 (by decide +kernel) ⟨_, rfl, rfl, _, rfl, iteB0 (by decide +kernel) ⟨_, rfl, rfl, _, rfl, iteB1 (by decide +kernel) ⟨_, rfl, _, rfl, ?_⟩⟩⟩⟩⟩⟩
      rw [rep_nonn hR]
      cases hnn : isNon d with
      | true =>
        rw [hnn] at k'
        exact iteT k'
      | false =>
        rw [hnn, Bool.false_or] at k'
        refine iteF ⟨_, rfl, _, rfl, rfl, .inr ⟨_, rfl, m, v, d, 0, 1000, ?_, hR, k'⟩⟩
        exact congrArg (fun z : Int => [v, V.int z, V.int 1000]) (by decide +kernel)
    | n =>
      refine ⟨_, rfl, rfl, _, rfl, iteB0 (by decide +kernel) ⟨_, rfl, rfl, _, rfl, iteB1 (by decide +kernel) (rd_isi (.inr (.inr (.inr rfl))) rfl hR ⟨_, rfl, ?_⟩)⟩⟩
      rcases @notTup d with ⟨ds, rfl⟩ | hn
      · refine iteB1 rfl ?_
        obtain ⟨m', a, xs, rfl, rfl, ha, hp⟩ := rep_tup hR
        have hlen := Paired.length hp
        refine ⟨_, rfl, a, xs, rfl, .inr (SqT.of ha), _, _, rfl, rfl, _, rfl, ?_⟩
        by_cases h8 : ds.length ≤ 8
        · refine iteB1 (decide_eq_true (by omega)) ?_
          refine ⟨_, rfl, a, rfl, ⟨_, SqT.of ha⟩, fun D hD => ?_⟩
          refine lc_tup (K := K) (xs := xs) (fun i H' => Same H H' ∧ H' D = some (.lst ((ds.take i).map fun e => V.bl (wdD e)))) ⟨Same.new (Same.refl _) hD, upd_same⟩ (fun i H' _ p => SqT.of (p.1 _ _ ha)) (fun i x H' hx p => ?_) (fun H' p => ?_)
          · obtain ⟨p1, p2⟩ := p
            obtain ⟨e, he, hre⟩ := Paired.at hp hx
            have hsz : szD e ≤ 1000000 := by
              have h1 := szL_get he
              rw [szD] at hz
              omega
            refine ⟨rfl, yes_of (iteT ?_)⟩
            refine ⟨_, rfl, m', x, e, rfl, hre.same p1, hsz, fun H2 s2 => ⟨_, s2 _ _ p2, ?_, ?_⟩⟩
            · rw [List.length_map]
              refine Nat.lt_of_le_of_lt (List.length_take_le' _ _) (Nat.lt_of_le_of_lt h8 (by decide))
            · refine ⟨fun b o ec => ?_, ?_⟩
              · rw [upd_ne (ne_of_none ec hD)]; exact s2 _ _ (p1 b o ec)
              · rw [upd_same, take_snoc he, List.map_append]; rfl
          · obtain ⟨p1, p2⟩ := p
            rw [hlen, List.take_length] at p2
            refine ⟨D, ds.map wdD, rfl, SqL.of (by rw [p2, List.map_map]; rfl), ?_⟩
            have e2 : nmD (.tuple ds) = (ds.map wdD).all id := by
              rw [nmD, decide_eq_true h8, Bool.true_and, List.all_map]; rfl
            have : Q (.bl (nmD (.tuple ds))) H' := k H' p1
            rw [e2] at this
            exact this
        · refine iteB0 (decide_eq_false (by omega)) ?_
          have e2 : nmD (.tuple ds) = false := by
            rw [nmD, decide_eq_false h8]; rfl
          have : Q (.bl (nmD (.tuple ds))) H := k H (Same.refl _)
          rw [e2] at this
          exact this
      · refine iteB0 (by cases d <;> first | rfl | exact absurd rfl (hn _)) ?_
        have e2 : nmD d = false := by cases d <;> first | rfl | exact absurd rfl (hn _)
        have : Q (.bl (nmD d)) H := k H (Same.refl _)
        rw [e2] at this
        exact this
end
end My

set_option Elab.async false
set_option linter.all false
set_option maxRecDepth 100000
set_option maxHeartbeats 4000000
namespace My
open PySem L2
section
variable {P : Program} {w : World} {K : PySem.W.Frag} {mg : Str → Option Value} {pB : Heap}
theorem drop_of {te : TE} {b : TS} {D : Ends} {σ : L2.St} {H : Hp} (h : te σ H fun _ H1 => b D σ H1) : tSeq (tDrop te) b D σ H := h
theorem fm1 : mergeK [] fk1 = fk1 := by decide +kernel
theorem fm2 : mergeK [] fk2 = fk2 := by decide +kernel
theorem fm3 : mergeK [] fk3 = fk3 := by decide +kernel
theorem fm4 : mergeK [] fk4 = fk4 := by decide +kernel
theorem fm5 : mergeK [] fk5 = fk5 := by decide +kernel
theorem fmA : mergeK (mergeK (mergeK (mergeK fk1 fk2) fk3) fk4) fk5 = formK := by decide +kernel
/-- a display of texts alone, read -/
theorem ok_forms {f : Addr} {fd : FuncData} (F : Fun K "_law_forms" "_law_forms" sForms f fd) : FnOk P w K mg pB CX0 1 f fd [] spForms := by
  refine F.ok scForms (fun vs H Q E h => ?_) (fun cdv A outer s H vs Q E hr h => ?_)
  · obtain ⟨rfl, _⟩ := h
    rfl
  · obtain ⟨rfl, k⟩ := h
    have nd := scForms.nd
    refine ⟨_, pss_cons (ps_set (i := 0) nd rfl (Or.inl rfl) (pe_disp (pps_cons pe_str pe_str (pps_cons pe_str pe_str (pps_cons pe_str pe_str (pps_cons pe_str pe_str (pps_cons pe_str pe_str (pps_cons pe_str pe_str (pps_cons pe_str pe_str pps_nil))))))) (by rfl) (by rfl) (fun z => by cases z) (by decide)))
      (pss_cons (ps_expr (pe_bm PySem.F.plainAttrs_dict PySem.F.slot_dict_update PySem.F.type_dict_update mt_update (pv 0) (pa_cons (pe_disp (pps_cons pe_str pe_str (pps_cons pe_str pe_str (pps_cons pe_str pe_str (pps_cons pe_str pe_str (pps_cons pe_str pe_str (pps_cons pe_str pe_str (pps_cons pe_str pe_str pps_nil))))))) (by rfl) (by rfl) (fun z => by cases z) (by decide)) pa_nil)))
      (pss_cons (ps_expr (pe_bm PySem.F.plainAttrs_dict PySem.F.slot_dict_update PySem.F.type_dict_update mt_update (pv 0) (pa_cons (pe_disp (pps_cons pe_str pe_str (pps_cons pe_str pe_str (pps_cons pe_str pe_str (pps_cons pe_str pe_str (pps_cons pe_str pe_str (pps_cons pe_str pe_str (pps_cons pe_str pe_str pps_nil))))))) (by rfl) (by rfl) (fun z => by cases z) (by decide)) pa_nil)))
      (pss_cons (ps_expr (pe_bm PySem.F.plainAttrs_dict PySem.F.slot_dict_update PySem.F.type_dict_update mt_update (pv 0) (pa_cons (pe_disp (pps_cons pe_str pe_str (pps_cons pe_str pe_str (pps_cons pe_str pe_str (pps_cons pe_str pe_str (pps_cons pe_str pe_str (pps_cons pe_str pe_str (pps_cons pe_str pe_str pps_nil))))))) (by rfl) (by rfl) (fun z => by cases z) (by decide)) pa_nil)))
      (pss_cons (ps_expr (pe_bm PySem.F.plainAttrs_dict PySem.F.slot_dict_update PySem.F.type_dict_update mt_update (pv 0) (pa_cons (pe_disp (pps_cons pe_str pe_str (pps_cons pe_str pe_str pps_nil)) (by rfl) (by rfl) (fun z => by cases z) (by decide)) pa_nil)))
      (pss_one (ps_ret (pv 0))))))), ?_⟩
    refine asg_n (fun p hp => ⟨upd_same, fk1, rfl, by decide, ?_⟩)
    rw [fm1]
    have c1 : (upd (upd H p (.dK [])) p (.dK fk1)) p = some (.dK fk1) := upd_same
    have n1 : ∀ b o, H b = some o → (upd (upd H p (.dK [])) p (.dK fk1)) b = some o := fun b o e => by rw [upd_ne (ne_of_none e hp), upd_ne (ne_of_none e hp)]; exact e
    generalize upd (upd H p (.dK [])) p (.dK fk1) = J1 at c1 n1 ⊢
    refine drop_of ⟨_, rfl, .inr (.inr (.inl ⟨rfl, .inl ⟨_, c1⟩⟩)), fun p2 hp2 => ⟨upd_same, fk2, rfl, by decide, p, p2, fk1, mergeK [] fk2, rfl, rfl, ?_, upd_same, ne_of_none c1 hp2, by decide +kernel, ?_⟩⟩
    · rw [upd_ne (ne_of_none c1 hp2), upd_ne (ne_of_none c1 hp2)]; exact c1
    rw [fm2]
    have c2 : (upd (upd (upd J1 p2 (.dK [])) p2 (.dK fk2)) p (.dK (mergeK fk1 fk2))) p = some (.dK (mergeK fk1 fk2)) := upd_same
    have n2 : ∀ b o, H b = some o → (upd (upd (upd J1 p2 (.dK [])) p2 (.dK fk2)) p (.dK (mergeK fk1 fk2))) b = some o := fun b o e => by rw [upd_ne (ne_of_none e hp), upd_ne (ne_of_none (n1 b o e) hp2), upd_ne (ne_of_none (n1 b o e) hp2)]; exact n1 b o e
    generalize upd (upd (upd J1 p2 (.dK [])) p2 (.dK fk2)) p (.dK (mergeK fk1 fk2)) = J2 at c2 n2 ⊢
    refine drop_of ⟨_, rfl, .inr (.inr (.inl ⟨rfl, .inl ⟨_, c2⟩⟩)), fun p3 hp3 => ⟨upd_same, fk3, rfl, by decide, p, p3, (mergeK fk1 fk2), mergeK [] fk3, rfl, rfl, ?_, upd_same, ne_of_none c2 hp3, by decide +kernel, ?_⟩⟩
    · rw [upd_ne (ne_of_none c2 hp3), upd_ne (ne_of_none c2 hp3)]; exact c2
    rw [fm3]
    have c3 : (upd (upd (upd J2 p3 (.dK [])) p3 (.dK fk3)) p (.dK (mergeK (mergeK fk1 fk2) fk3))) p = some (.dK (mergeK (mergeK fk1 fk2) fk3)) := upd_same
    have n3 : ∀ b o, H b = some o → (upd (upd (upd J2 p3 (.dK [])) p3 (.dK fk3)) p (.dK (mergeK (mergeK fk1 fk2) fk3))) b = some o := fun b o e => by rw [upd_ne (ne_of_none e hp), upd_ne (ne_of_none (n2 b o e) hp3), upd_ne (ne_of_none (n2 b o e) hp3)]; exact n2 b o e
    generalize upd (upd (upd J2 p3 (.dK [])) p3 (.dK fk3)) p (.dK (mergeK (mergeK fk1 fk2) fk3)) = J3 at c3 n3 ⊢
    refine drop_of ⟨_, rfl, .inr (.inr (.inl ⟨rfl, .inl ⟨_, c3⟩⟩)), fun p4 hp4 => ⟨upd_same, fk4, rfl, by decide, p, p4, (mergeK (mergeK fk1 fk2) fk3), mergeK [] fk4, rfl, rfl, ?_, upd_same, ne_of_none c3 hp4, by decide +kernel, ?_⟩⟩
    · rw [upd_ne (ne_of_none c3 hp4), upd_ne (ne_of_none c3 hp4)]; exact c3
    rw [fm4]
    have c4 : (upd (upd (upd J3 p4 (.dK [])) p4 (.dK fk4)) p (.dK (mergeK (mergeK (mergeK fk1 fk2) fk3) fk4))) p = some (.dK (mergeK (mergeK (mergeK fk1 fk2) fk3) fk4)) := upd_same
    have n4 : ∀ b o, H b = some o → (upd (upd (upd J3 p4 (.dK [])) p4 (.dK fk4)) p (.dK (mergeK (mergeK (mergeK fk1 fk2) fk3) fk4))) b = some o := fun b o e => by rw [upd_ne (ne_of_none e hp), upd_ne (ne_of_none (n3 b o e) hp4), upd_ne (ne_of_none (n3 b o e) hp4)]; exact n3 b o e
    generalize upd (upd (upd J3 p4 (.dK [])) p4 (.dK fk4)) p (.dK (mergeK (mergeK (mergeK fk1 fk2) fk3) fk4)) = J4 at c4 n4 ⊢
    refine drop_of ⟨_, rfl, .inr (.inr (.inl ⟨rfl, .inl ⟨_, c4⟩⟩)), fun p5 hp5 => ⟨upd_same, fk5, rfl, by decide, p, p5, (mergeK (mergeK (mergeK fk1 fk2) fk3) fk4), mergeK [] fk5, rfl, rfl, ?_, upd_same, ne_of_none c4 hp5, by decide +kernel, ?_⟩⟩
    · rw [upd_ne (ne_of_none c4 hp5), upd_ne (ne_of_none c4 hp5)]; exact c4
    rw [fm5]
    have c5 : (upd (upd (upd J4 p5 (.dK [])) p5 (.dK fk5)) p (.dK (mergeK (mergeK (mergeK (mergeK fk1 fk2) fk3) fk4) fk5))) p = some (.dK (mergeK (mergeK (mergeK (mergeK fk1 fk2) fk3) fk4) fk5)) := upd_same
    have n5 : ∀ b o, H b = some o → (upd (upd (upd J4 p5 (.dK [])) p5 (.dK fk5)) p (.dK (mergeK (mergeK (mergeK (mergeK fk1 fk2) fk3) fk4) fk5))) b = some o := fun b o e => by rw [upd_ne (ne_of_none e hp), upd_ne (ne_of_none (n4 b o e) hp5), upd_ne (ne_of_none (n4 b o e) hp5)]; exact n4 b o e
    generalize upd (upd (upd J4 p5 (.dK [])) p5 (.dK fk5)) p (.dK (mergeK (mergeK (mergeK (mergeK fk1 fk2) fk3) fk4) fk5)) = J5 at c5 n5 ⊢
    rw [fmA] at c5
    exact ⟨_, rfl, k p J5 n5 c5⟩
end
end My

set_option Elab.async false
set_option linter.all false
set_option maxRecDepth 100000
set_option maxHeartbeats 4000000
namespace My
open PySem L2
section
variable {P : Program} {w : World} {K : PySem.W.Frag} {mg : Str → Option Value} {pB : Heap}
theorem asg_1 {te : TE} {i : Nat} {D : Ends} {σ : L2.St} {H : Hp} (h : te σ H fun x H1 => D.nx (σ.set i (some x)) H1) : tAsg te (gName i) D σ H := h
theorem val_l (x : Str) : ∀ l : List (Str × List Kd), valV (l.map fun p => ((Sum.inr p.1 : Key), V.str (ksignS p.2))) (Sum.inr x) = (l.find? fun p => decide (p.1 = x)).map fun p => V.str (ksignS p.2)
  | [] => rfl
  | p :: l => by
    by_cases e : p.1 = x
    · rw [List.map_cons, List.find?_cons_of_pos (by simpa using e), e]
      exact valV_pos rfl
    · rw [List.map_cons, List.find?_cons_of_neg (by simpa using e), valV_neg (fun z => e (Sum.inr.inj z))]
      exact val_l x l
theorem val_form (x : Str) : valV formK (Sum.inr x) = (formOf x).map fun ks => V.str (ksignS ks) := by
  rw [formK, val_l, formOf, Option.map_map]
  rfl
theorem form_all : ∀ p ∈ formL, p.2.length ≤ 9 := by decide
theorem form_len {x : Str} {ks : List Kd} (h : formOf x = some ks) : ks.length ≤ 9 := by
  unfold formOf at h
  obtain ⟨p, hp, rfl⟩ := Option.map_eq_some_iff.mp h
  exact form_all p (List.mem_of_find?_eq_some hp)
theorem sumO_none {l : List (Option Nat)} {j : Nat} (hj : l[j]? = some none) : sumO l = none := by
  have hl : j < l.length := (List.getElem?_eq_some_iff.mp hj).1
  have e1 : l = l.take j ++ (none :: l.drop (j + 1)) := by
    rw [List.getElem?_eq_getElem hl] at hj
    rw [← Option.some.inj hj, ← List.drop_eq_getElem_cons hl, List.take_append_drop]
  rw [e1, sumO_app]
  cases sumO (l.take j) <;> rfl
/-- a count, or a thousand and more -/
def Cn (o : Option Nat) (M : Int) : Prop := 0 ≤ M ∧ (∀ c, o = some c → M = (c : Int)) ∧ (o = none → 1000 ≤ M)
theorem Cn.snoc {l : List (Option Nat)} {j : Nat} {o : Option Nat} {M N : Int} (h : Cn (sumO (l.take j)) M) (hj : l[j]? = some o) (ho : Cn o N) : Cn (sumO (l.take (j + 1))) (M + N) := by
  rw [take_snoc hj, sumO_app]
  obtain ⟨h0, h1, h2⟩ := h
  obtain ⟨g0, g1, g2⟩ := ho
  cases hs : sumO (l.take j) with
  | none => exact ⟨by omega, fun c e => (by cases e), fun _ => (by have := h2 hs; omega)⟩
  | some a =>
    have e1 := h1 a hs
    cases o with
    | none => exact ⟨by omega, fun c e => (by cases e), fun _ => (by have := g2 rfl; omega)⟩
    | some b =>
      have e2 := g1 b rfl
      refine ⟨by omega, fun c e => ?_, fun e => by cases e⟩
      have e3 : a + (b + 0) = c := Option.some.inj e
      omega
theorem Cn.zero : Cn (some 0) 0 := ⟨by omega, fun c e => (by cases e; rfl), fun e => (by cases e)⟩
def spMany (n : Nat) : Sp := fun vs H Q _ => ∃ (m : Nat) (v : V) (d : PyData), vs = [v, .int (n : Int)] ∧ Rep H m v d ∧ szD d ≤ 1000000 ∧ ∀ (M : Int) (H' : Hp), Same H H' → Cn (cnt n d) M → Q (.int M) H'
def spPrevM : Nat → Sp
  | 0 => spBot
  | n + 1 => spMany n
abbrev sMany : Stmt := top 58
theorem scMany : FnScope ["_law_thing", "_law_left", "_law_found", "_law_forms_here", "_law_deed", "_law_kind", "_law_part_here"] ["_law_thing", "_law_left"] (defScope sMany) := ⟨rfl, rfl, rfl, by decide +kernel, rfl, by decide +kernel, by decide +kernel⟩
theorem step_many {f fF fP : Addr} {fd dF dP : FuncData} (F : Fun K "_law_many" "_law_many" sMany f fd) (n : Nat) (G : FnOk P w K mg pB CX0 (n + 7) f fd ["_law_thing", "_law_left"] (spPrevM n)) (mG : mg "_law_many" = some (.ref f)) (bG : Binds K fd ["_law_thing", "_law_left"] [])
    (GF : FnOk P w K mg pB CX0 1 fF dF [] spForms) (mF : mg "_law_forms" = some (.ref fF)) (kF : PySem.W.keepIn K (.ref fF) = true) (bF : Binds K dF [] [])
    (GP : FnOk P w K mg pB CX0 7 fP dP ["_law_kind", "_law_thing"] spIsPart) (mP : mg "_law_is_part" = some (.ref fP)) (kP : PySem.W.keepIn K (.ref fP) = true) (bP : Binds K dP ["_law_kind", "_law_thing"] [])
    (mI : mg "isinstance" = none) (mT : mg "tuple" = none) (mS : mg "str" = none) (mLen : mg "len" = none) (mZ : mg "zip" = none) : FnOk P w K mg pB CX0 (n + 8) f fd ["_law_thing", "_law_left"] (spMany n) := by
  refine F.ok scMany (fun vs H Q E h => ?_) (fun cdv A outer s H vs Q E hr h => ?_)
  · obtain ⟨m, v, d, rfl, _⟩ := h
    rfl
  · obtain ⟨m, v, d, rfl, hR, hz, k⟩ := h
    have nd := scMany.nd
    have hr1 : Room 1 _ := hr.mono (by omega)
    have hr7 : Room 7 _ := hr.mono (by omega)
    have hu := hu_of hr
    refine ⟨_, pss_cons (ps_if (PW.pt (pw_or (pt_cmpR op_eq (pv 1) pe_int (nomark _)) (pw_or1 (pt_not (pt_val (pe_callB call_isi (by rfl) mI (by decide +kernel) (pa_cons (pv 0) (pa_cons (pe_bltn (by rfl) mT (by decide +kernel) (show RelV (.ty "tuple") (.type "tuple") from rfl)) pa_nil)))))))) (pss_one (ps_ret pe_int)) pss_nil)
      (pss_cons (ps_par (by rfl) nd (i := 2) (j := 3) rfl rfl (by decide) rfl rfl (pa_cons pe_int (pa_cons (pe_call0 GF hr1 rfl mF kF bF .nil pass0) pa_nil)) (by rfl))
      (pss_cons (ps_for PassesOwn.never rfl (pi_tup (pv 0)) (pg_name (i := 4) nd rfl (Or.inl rfl))
        (pss_cons (ps_if (PW.pt (pw_or (pt_not (pt_val (pe_callB call_isi (by rfl) mI (by decide +kernel) (pa_cons (pv 4) (pa_cons (pe_bltn (by rfl) mT (by decide +kernel) (show RelV (.ty "tuple") (.type "tuple") from rfl)) pa_nil)))))
            (pw_or (pt_cmpR (op_eqT0 hr.units) (pv 4) (pe_tup pa_nil) (nomark _)) (pw_or (pt_not (pt_val (pe_callB call_isi (by rfl) mI (by decide +kernel) (pa_cons (pe_ix ix_tup (pv 4) pe_int (fun _ _ => rfl)) (pa_cons (pe_bltn (by rfl) mS (by decide +kernel) (show RelV (.ty "str") (.type "str") from rfl)) pa_nil)))))
              (pw_or1 (pt_cmp (pc_dnotin hu (pe_ix ix_tup (pv 4) pe_int (fun _ _ => rfl)) (pv 3)))))))) (pss_one (ps_ret pe_int)) pss_nil)
        (pss_cons (ps_if (pt_cmpR op_ne (pe_callB call_len_seq (by rfl) mLen PySem.boot_len (pa_cons (pv 4) pa_nil)) (pe_op op_add pe_int (pe_callB call_len_str (by rfl) mLen PySem.boot_len (pa_cons (pe_dget hu (pv 3) (pe_ix ix_tup (pv 4) pe_int (fun _ _ => rfl)) (fun _ _ => rfl)) pa_nil))) (nomark _)) (pss_one (ps_ret pe_int)) pss_nil)
        (pss_cons (ps_set (i := 2) nd rfl (Or.inl rfl) (pe_op op_add (pv 2) pe_int))
        (pss_one (ps_for PassesOwn.never rfl (pi_zipS (by rfl) mZ (pa_cons (pe_dget hu (pv 3) (pe_ix ix_tup (pv 4) pe_int (fun _ _ => rfl)) (fun _ _ => rfl)) (pa_cons (pe_slice sl_tupA (pv 4) (po_some pe_int) po_none) pa_nil)))
          (pg_tup (by rfl) (pgs_cons (pg_name (i := 5) nd rfl (Or.inl rfl)) (pgs_cons (pg_name (i := 6) nd rfl (Or.inl rfl)) pgs_nil)))
          (pss_one (ps_if (PW.pt (pw_and (pt_cmpR op_in_sign (pv 5) pe_str rfl) (pw_and1 (PW.pt (pw_or (pt_cmpR op_eq (pv 5) pe_str (nomark _)) (pw_or1 (pt_cmp (pc_notN (pv 6)))))))))
            (pss_one (ps_set (i := 2) nd rfl (Or.inl rfl) (pe_op op_add (pv 2) (pe_call G hr rfl mG F.kp bG .nil pass0 (pa_cons (pv 6) (pa_cons (pe_op op_sub (pv 1) pe_int) pa_nil))))))
            (pss_one (ps_if (PW.pt (pw_and (pt_cmpR op_notIn_sign (pv 5) pe_str rfl) (pw_and1 (pt_not (pt_val (pe_call GP hr7 rfl mP kP bP .nil pass0 (pa_cons (pv 5) (pa_cons (pv 6) pa_nil)))))))) (pss_one (ps_ret pe_int)) pss_nil))))))))))
      (pss_one (ps_ret (pv 2))))), ?_⟩
    have out : cnt n d = none → ∀ H', Same H H' → Q (.int 1000) H' := fun e H' s' => k 1000 H' s' ⟨by decide, fun c h => (by rw [e] at h; cases h), fun _ => by decide⟩
    cases n with
    | zero => exact ⟨_, rfl, rfl, _, rfl, iteY rfl (iteT (out rfl H (Same.refl _)))⟩
    | succ n =>
    refine ⟨_, rfl, rfl, _, rfl, iteN (by intro z; have := V.int.inj z; omega) ?_⟩
    refine rd_isi (.inr (.inr (.inr rfl))) rfl hR ⟨_, rfl, ?_⟩
    rcases @notTup d with ⟨ds, rfl⟩ | hn
    · refine iteB0 rfl ?_
      obtain ⟨m', a, xs, rfl, rfl, ha, hp⟩ := rep_tup hR
      have hlen := Paired.length hp
      have hzs : szL ds ≤ 1000000 := by rw [szD] at hz; omega
      refine nxt_of (par_of ?_)
      refine ⟨rfl, fun p H1 s1 c1 => ⟨_, _, rfl, ?_⟩⟩
      have ca1 := s1 _ _ ha
      refine ⟨_, rfl, a, rfl, ⟨_, SqT.of ca1⟩, for_tup (xs := xs) (fun j σ H3 => ∃ (M : Int) (x4 x5 x6 : Option V), σ = [some (.ref a), some (.int ((n + 1 : Nat) : Int)), some (.int (M + j)), some (.ref p), x4, x5, x6] ∧ Same H1 H3 ∧ Cn (sumO ((ds.map (deedB (cnt n))).take j)) M) ?_ ?_ ?_ ?_⟩
      · exact ⟨0, none, none, none, rfl, Same.refl _, Cn.zero⟩
      · rintro j σ H3 _ ⟨M, x4, x5, x6, rfl, s3, _⟩
        exact SqT.of (s3 _ _ ca1)
      · rintro j y σ H3 hy ⟨M, x4, x5, x6, rfl, s3, hM⟩
        obtain ⟨e, he, hre⟩ := Paired.at hp hy
        have hsz : szD e ≤ 1000000 := Nat.le_trans (szL_get he) hzs
        have hL : (ds.map (deedB (cnt n)))[j]? = some (deedB (cnt n) e) := by rw [List.getElem?_map, he]; rfl
        have bad : deedB (cnt n) e = none → ∀ H', Same H3 H' → Q (.int 1000) H' := fun hb H' s' => out (by rw [cnt, sumO_none (by rw [hL, hb])]; rfl) H' (s1.trans (s3.trans s'))
        have hre3 := (hre.same s1).same s3
        have cp3 := s3 _ _ c1
        refine rd_isi (i := 4) (.inr (.inr (.inr rfl))) rfl hre3 ⟨_, rfl, ?_⟩
        rcases @notTup e with ⟨es, rfl⟩ | hne
        rotate_left
        · refine iteB1 (by cases e <;> first | rfl | exact absurd rfl (hne _)) (iteT (bad ?_ H3 (Same.refl _)))
          cases e <;> first | rfl | exact absurd rfl (hne _)
        refine iteB0 rfl ?_
        obtain ⟨m2, b, zs, rfl, rfl, hb, hpz⟩ := rep_tup hre3
        refine ⟨_, rfl, by show 0 ≤ sizeLine; decide, fun t0 ht0 => ?_⟩
        have s4 : Same H3 (upd H3 t0 (.tup [])) := Same.new (Same.refl _) ht0
        have hb4 := s4 _ _ hb
        have cp4 := s4 _ _ cp3
        refine ⟨b, t0, zs, rfl, rfl, SqT.of hb4, SqT.of upd_same, _, rfl, ?_⟩
        cases hpz with
        | nil => exact iteT (iteT (bad rfl _ s4))
        | @cons x e0 zs es hx0 hpz =>
          have hlz := Paired.length hpz
          refine iteF ?_
          have hat : atI (x :: zs) 0 = some x := atI_nat (xs := x :: zs) (j := 0) (v := x) rfl
          have hx4 := hx0.same s4
          refine ⟨_, rfl, b, _, 0, x, rfl, rfl, SqT.of hb4, hat, x, .ty "str", .type (tyN e0), .type "str", _, rfl, .ty "str", hx4.ty, kit_ty (kit_T (.inl rfl) e0), _, rfl, ?_⟩
          by_cases hst : ∃ y, e0 = .str y
          rotate_left
          · refine iteB1 (by cases e0 <;> first | rfl | exact absurd ⟨_, rfl⟩ hst) (iteT (bad ?_ _ s4))
            cases e0 <;> first | rfl | exact absurd ⟨_, rfl⟩ hst
          obtain ⟨y, rfl⟩ := hst
          cases rep_str hx0
          refine iteB0 rfl ?_
          have hgk : DGet (upd H3 t0 (.tup [])) p (.str y) (valV formK (Sum.inr y)) := DGet.k (k := Sum.inr y) cp4
          refine ⟨_, rfl, b, _, 0, _, rfl, rfl, SqT.of hb4, hat, _, rfl, p, _, rfl, hgk, _, rfl, ?_⟩
          rw [val_form] at hgk ⊢
          cases hf : formOf y with
          | none =>
            refine iteB1 rfl (bad ?_ _ s4)
            show (match formOf y with | some ks => if es.length = ks.length then sumO (List.zipWith (partB (cnt n)) ks es) else none | none => none) = none
            rw [hf]
          | some ks =>
            rw [hf] at hgk
            have hgk : DGet (upd H3 t0 (.tup [])) p (.str y) (some (.str (ksignS ks))) := hgk
            have hde : deedB (cnt n) (.tuple (.str y :: es)) = if es.length = ks.length then sumO (List.zipWith (partB (cnt n)) ks es) else none := by
              show (match formOf y with | some ks => if es.length = ks.length then sumO (List.zipWith (partB (cnt n)) ks es) else none | none => none) = _
              rw [hf]
            have hkl : (ksignS ks).length = ks.length := by
              show (ks.map ksign).toArray.size = _
              rw [List.size_toArray, List.length_map]
            have hk9 := form_len hf
            refine iteB0 rfl ?_
            refine nxt_of ⟨_, rfl, b, _, rfl, .inr (SqT.of hb4), _, rfl, _, rfl, b, _, 0, _, rfl, rfl, SqT.of hb4, hat, p, _, rfl, hgk, _, rfl, Nat.le_trans (show (ksignS ks).length ≤ 1000 by omega) (by decide), _, _, rfl, rfl, rfl, _, rfl, ?_⟩
            by_cases hle : es.length = ks.length
            rotate_left
            · refine iteB1 ?_ (bad (by rw [hde, if_neg hle]) _ s4)
              rw [decide_eq_false (fun z => hle (by have := V.int.inj z; rw [List.length_cons, hkl] at this; omega))]
              rfl
            refine iteB0 ?_ (nxt_of (asg_n ⟨_, rfl, _, _, rfl, rfl, ?_⟩))
            · rw [decide_eq_true (congrArg V.int (by rw [List.length_cons, hkl]; omega))]
              rfl
            rw [if_pos hle] at hde
            have hb4' : (upd H3 t0 (.tup [])) b = some (.tup (.str y :: zs)) := hb4
            refine ⟨_, rfl, _, rfl, b, _, 0, _, rfl, rfl, SqT.of hb4, hat, p, _, rfl, hgk, _, rfl, _, rfl, np_of (rd_slT hb4' fun p2 H5 s5 c5 => ?_)⟩
            rw [cut_from _ (by decide) (by rw [List.length_cons]; omega)] at c5
            have c5 : H5 p2 = some (.tup zs) := c5
            have hpz5 : Paired (Rep H5 m2) zs es := Paired.mapP hpz fun _ _ z => (z.same s4).same s5
            have hcz : (ksignS ks).cps.size = zs.length := by
              have : (ksignS ks).cps.size = ks.length := hkl
              omega
            have hzes : szL es ≤ 1000000 := by
              rw [szD, szL] at hsz
              omega
            refine ⟨ksignS ks, p2, zs, rfl, SqT.of c5, for_zipS hcz (fun i σ H6 => ∃ (G : Int) (x5 x6 : Option V), σ = [some (.ref a), some (.int ((n + 1 : Nat) : Int)), some (.int (M + j + 1 + G)), some (.ref p), some (.ref b), x5, x6] ∧ Same H5 H6 ∧ Cn (sumO ((List.zipWith (partB (cnt n)) ks es).take i)) G) ?_ ?_ ?_ ?_⟩
            · refine ⟨0, x5, x6, ?_, Same.refl _, Cn.zero⟩
              rw [Int.add_zero]
              rfl
            · rintro i σ H6 ⟨G, x5, x6, rfl, s6, _⟩
              exact SqT.of (s6 _ _ c5)
            · rintro i c u T σ H6 hci hui ⟨G, x5, x6, rfl, s6, hG⟩ hTn
              have hki : ∃ kd, ks[i]? = some kd ∧ c = ksign kd := by
                have e1 : (ks.map ksign)[i]? = some c := by rw [← hci]; simp [ksignS]
                rw [List.getElem?_map] at e1
                obtain ⟨kd, q1, q2⟩ := Option.map_eq_some_iff.mp e1
                exact ⟨kd, q1, q2.symm⟩
              obtain ⟨kd, hkd, rfl⟩ := hki
              obtain ⟨e', he', hre'⟩ := Paired.at hpz5 hui
              have s7 : Same H6 (upd H6 T (.tup [.str ⟨#[ksign kd]⟩, u])) := Same.new (Same.refl _) hTn
              have hre7 := (hre'.same s6).same s7
              have hsz' : szD e' ≤ 1000000 := Nat.le_trans (szL_get he') hzes
              have hLi : (List.zipWith (partB (cnt n)) ks es)[i]? = some (partB (cnt n) kd e') := by
                rw [List.getElem?_zipWith, hkd, he']
              have t3 : decide (ksign kd ∈ (Str.ofString "Ss").cps.toList) = isScr kd := by cases kd <;> decide +kernel
              have t4 : decide (V.str ⟨#[ksign kd]⟩ = V.str "S") = decide (kd = .S) := by cases kd <;> decide +kernel
              have stay : partB (cnt n) kd e' = some 0 → ∃ (G' : Int) (x5 x6 : Option V), [some (.ref a), some (.int ((n + 1 : Nat) : Int)), some (.int (M + j + 1 + G)), some (.ref p), some (.ref b), some (.str ⟨#[ksign kd]⟩), some u] = [some (V.ref a), some (.int ((n + 1 : Nat) : Int)), some (.int (M + j + 1 + G')), some (.ref p), some (.ref b), x5, x6] ∧ Same H5 (upd H6 T (.tup [.str ⟨#[ksign kd]⟩, u])) ∧ Cn (sumO ((List.zipWith (partB (cnt n)) ks es).take (i + 1))) G' := fun h0 =>
                ⟨G, _, _, rfl, s6.trans s7, by have := hG.snoc hLi (N := 0) (by rw [h0]; exact Cn.zero); rw [Int.add_zero] at this; exact this⟩
              refine ⟨T, _, rfl, SqT.of upd_same, rfl, _, _, rfl, _, _, rfl, rfl, ?_⟩
              refine ⟨_, rfl, ksign kd, _, rfl, rfl, _, rfl, ?_⟩
              rcases Bool.eq_false_or_eq_true (isScr kd) with hk | hk
              · refine iteB1 (t3.trans hk) ⟨_, rfl, rfl, _, rfl, ?_⟩
                by_cases hS : kd = .S
                · refine iteB1 (by rw [t4]; exact decide_eq_true hS) ?_
                  have hpB : partB (cnt n) kd e' = cnt n e' := by rw [partB, if_pos hk, if_neg (by rw [hS]; intro z; cases z.1)]
                  refine iteT ?_
                  refine asg_1 ⟨_, rfl, call_of (sp := spMany n) ⟨_, rfl, _, rfl, _, _, rfl, rfl, m2, u, e', ?_, hre7, hsz', fun M' H8 s8 hC => ⟨_, _, rfl, rfl, ?_⟩⟩⟩
                  · show [u, V.int (((n + 1 : Nat) : Int) - 1)] = [u, V.int (n : Int)]
                    rw [show (((n + 1 : Nat) : Int) - 1) = (n : Int) by omega]
                  refine ⟨G + M', some (.str ⟨#[ksign kd]⟩), some u, ?_, s6.trans (s7.trans s8), hG.snoc hLi (by rw [hpB]; exact hC)⟩
                  rw [show M + j + 1 + (G + M') = M + j + 1 + G + M' by omega]
                  rfl
                · refine iteB0 (by rw [t4]; exact decide_eq_false hS) ⟨_, rfl, _, rfl, ?_⟩
                  rw [rep_nonn hre7]
                  have hs : kd = .s := by cases kd <;> first | rfl | exact absurd rfl hS | exact absurd hk (by decide)
                  rcases Bool.eq_false_or_eq_true (isNon e') with hno | hno
                  · refine iteB0 (by rw [hno]; rfl) ?_
                    refine ⟨_, rfl, ksign kd, _, rfl, rfl, _, rfl, iteB0 (by rw [t3, hk]; rfl) ?_⟩
                    exact stay (by rw [partB, if_pos hk, if_pos ⟨hs, hno⟩])
                  · refine iteB1 (by rw [hno]; rfl) ?_
                    have hpB : partB (cnt n) kd e' = cnt n e' := by rw [partB, if_pos hk, if_neg (by rw [hno]; intro z; cases z.2)]
                    refine asg_1 ⟨_, rfl, call_of (sp := spMany n) ⟨_, rfl, _, rfl, _, _, rfl, rfl, m2, u, e', ?_, hre7, hsz', fun M' H8 s8 hC => ⟨_, _, rfl, rfl, ?_⟩⟩⟩
                    · show [u, V.int (((n + 1 : Nat) : Int) - 1)] = [u, V.int (n : Int)]
                      rw [show (((n + 1 : Nat) : Int) - 1) = (n : Int) by omega]
                    refine ⟨G + M', some (.str ⟨#[ksign kd]⟩), some u, ?_, s6.trans (s7.trans s8), hG.snoc hLi (by rw [hpB]; exact hC)⟩
                    rw [show M + j + 1 + (G + M') = M + j + 1 + G + M' by omega]
                    rfl
              · have hpB : partB (cnt n) kd e' = if partOk kd e' = true then some 0 else none := by rw [partB, if_neg (by rw [hk]; decide)]
                refine iteB0 (t3.trans hk) ?_
                refine ⟨_, rfl, ksign kd, _, rfl, rfl, _, rfl, iteB1 (by rw [t3, hk]; rfl) ?_⟩
                refine ⟨_, rfl, _, rfl, m2, u, e', kd, rfl, hk, hre7, hsz', fun H8 s8 => ⟨_, rfl, ?_⟩⟩
                rcases Bool.eq_false_or_eq_true (partOk kd e') with ho | ho
                · refine iteB0 (by rw [ho]; rfl) ?_
                  exact ⟨G, some (.str ⟨#[ksign kd]⟩), some u, rfl, s6.trans (s7.trans s8), by have := hG.snoc hLi (N := 0) (by rw [hpB, if_pos ho]; exact Cn.zero); rw [Int.add_zero] at this; exact this⟩
                · refine iteB1 (by rw [ho]; rfl) (bad ?_ H8 (s4.trans (s5.trans (s6.trans (s7.trans s8)))))
                  rw [hde]
                  exact sumO_none (by rw [hLi, hpB, if_neg (by rw [ho]; decide)])
            · rintro σ H6 ⟨G, x5, x6, rfl, s6, hG⟩
              have hfull : (List.zipWith (partB (cnt n)) ks es).take zs.length = List.zipWith (partB (cnt n)) ks es := by
                rw [List.take_of_length_le]
                rw [List.length_zipWith]; omega
              rw [hfull, ← hde] at hG
              refine ⟨M + G, some (.ref b), x5, x6, ?_, s3.trans (s4.trans (s5.trans s6)), hM.snoc hL hG⟩
              rw [show M + G + ((j + 1 : Nat) : Int) = M + j + 1 + G by omega]
      · rintro σ H3 ⟨M, x4, x5, x6, rfl, s3, hM⟩
        have hfull : (ds.map (deedB (cnt n))).take xs.length = ds.map (deedB (cnt n)) := by
          rw [List.take_of_length_le]
          rw [List.length_map]; omega
        rw [hfull] at hM
        refine ⟨_, rfl, k _ H3 (s1.trans s3) ?_⟩
        obtain ⟨q0, q1, q2⟩ := hM
        rw [cnt]
        cases hs : sumO (ds.map (deedB (cnt n))) with
        | none => exact ⟨by omega, fun c e => (by cases e), fun _ => (by have := q2 hs; omega)⟩
        | some c =>
          have := q1 c hs
          refine ⟨by omega, fun c' e => ?_, fun e => (by cases e)⟩
          have e3 : ds.length + c = c' := Option.some.inj e
          omega
    · refine iteB1 (by cases d <;> first | rfl | exact absurd rfl (hn _)) (out ?_ H (Same.refl _))
      cases d <;> first | rfl | exact absurd rfl (hn _)
end
end My

set_option Elab.async false
set_option linter.all false
set_option maxRecDepth 100000
set_option maxHeartbeats 4000000
namespace My
open PySem L2
section
variable {P : Program} {w : World} {K : PySem.W.Frag} {mg : Str → Option Value} {pB : Heap}
theorem ok_many {f fF fP : Addr} {fd dF dP : FuncData} (F : Fun K "_law_many" "_law_many" sMany f fd) (mG : mg "_law_many" = some (.ref f)) (bG : Binds K fd ["_law_thing", "_law_left"] [])
    (GF : FnOk P w K mg pB CX0 1 fF dF [] spForms) (mF : mg "_law_forms" = some (.ref fF)) (kF : PySem.W.keepIn K (.ref fF) = true) (bF : Binds K dF [] [])
    (GP : FnOk P w K mg pB CX0 7 fP dP ["_law_kind", "_law_thing"] spIsPart) (mP : mg "_law_is_part" = some (.ref fP)) (kP : PySem.W.keepIn K (.ref fP) = true) (bP : Binds K dP ["_law_kind", "_law_thing"] [])
    (mI : mg "isinstance" = none) (mT : mg "tuple" = none) (mS : mg "str" = none) (mLen : mg "len" = none) (mZ : mg "zip" = none) : ∀ n, FnOk P w K mg pB CX0 (n + 8) f fd ["_law_thing", "_law_left"] (spMany n)
  | 0 => step_many F 0 ok_bot mG bG GF mF kF bF GP mP kP bP mI mT mS mLen mZ
  | n + 1 => step_many F (n + 1) (ok_many F mG bG GF mF kF bF GP mP kP bP mI mT mS mLen mZ n) mG bG GF mF kF bF GP mP kP bP mI mT mS mLen mZ
theorem isS_cn {d : PyData} {M : Int} (h : Cn (cnt 5 d) M) : decide (M ≤ 200) = isS d := by
  unfold isS
  obtain ⟨_, h1, h2⟩ := h
  cases hc : cnt 5 d with
  | none =>
    have := h2 hc
    exact decide_eq_false (by omega)
  | some c =>
    have := h1 c hc
    show decide (M ≤ 200) = decide (c ≤ 200)
    by_cases h : c ≤ 200
    · rw [decide_eq_true h, decide_eq_true (by omega)]
    · rw [decide_eq_false h, decide_eq_false (by omega)]
abbrev sLScript : Stmt := top 59
theorem scLScript : FnScope ["_law_thing"] ["_law_thing"] (defScope sLScript) := ⟨rfl, rfl, rfl, by decide +kernel, rfl, by decide +kernel, by decide +kernel⟩
theorem ok_lscript {f fM : Addr} {fd dM : FuncData} (F : Fun K "_law_is_script" "_law_is_script" sLScript f fd)
    (GM : FnOk P w K mg pB CX0 13 fM dM ["_law_thing", "_law_left"] (spMany 5)) (mM : mg "_law_many" = some (.ref fM)) (kM : PySem.W.keepIn K (.ref fM) = true) (bM : Binds K dM ["_law_thing", "_law_left"] []) : FnOk P w K mg pB CX0 14 f fd ["_law_thing"] (spTest isS) := by
  refine F.ok scLScript (fun vs H Q E h => ?_) (fun cdv A outer s H vs Q E hr h => ?_)
  · obtain ⟨m, v, d, rfl, _⟩ := h
    rfl
  · obtain ⟨m, v, d, rfl, hR, hz, k⟩ := h
    refine ⟨_, pss_one (ps_ret (pe_cmpR op_le (pe_call GM hr rfl mM kM bM .nil pass0 (pa_cons (pv 0) (pa_cons pe_int pa_nil))) pe_int (nomark _))), ?_⟩
    refine ⟨_, rfl, m, v, d, rfl, hR, hz, fun M H1 s1 hC => ⟨_, _, rfl, rfl, ?_⟩⟩
    show Q (.bl (decide (M ≤ 200))) H1
    rw [isS_cn hC]
    exact k H1 s1
end
end My

set_option Elab.async false
set_option linter.all false
set_option maxRecDepth 100000
set_option maxHeartbeats 4000000
namespace My
open PySem L2
section
variable {P : Program} {w : World} {K : PySem.W.Frag} {mg : Str → Option Value}
/-- an entry of the table: its word, the tuple of its kinds' names -/
def EntAt (K : PySem.W.Frag) (e : DictEntry) (p : Str × List Kd) : Prop := (∃ t, e.key = .str p.1 t) ∧ ∃ a, e.val = .ref a ∧ ∀ H, SqT K H a (p.2.map fun k => V.str (kname k))
theorem isStr_key {x y : Str} {t : Tok} : (Value.str y t).isStr x = decide (y = x) := by
  rw [PySem.W.isStr_of]
  show (y == x) = decide (y = x)
  by_cases h : y = x
  · rw [decide_eq_true h, h, beq_self_eq_true]
  · rw [decide_eq_false h]
    exact beq_eq_false_iff_ne.mpr h
theorem find_ent {x : Str} : ∀ {es : List DictEntry} {L : List (Str × List Kd)}, Paired (EntAt K) es L →
    (match L.find? (fun p => decide (p.1 = x)) with
      | some p => ∃ e, es.find? (·.key.isStr x) = some e ∧ EntAt K e p
      | none => es.find? (·.key.isStr x) = none) ∧ es.any (·.refKey) = false
  | _, _, .nil => ⟨rfl, rfl⟩
  | e :: es, p :: L, .cons h r => by
    obtain ⟨⟨t, hk⟩, a, hv, hs⟩ := id h
    have ih := find_ent (x := x) r
    have e1 : e.key.isStr x = decide (p.1 = x) := by rw [hk, isStr_key]
    refine ⟨?_, ?_⟩
    · by_cases hx : p.1 = x
      · rw [List.find?_cons_of_pos (by simpa using hx)]
        exact ⟨e, List.find?_cons_of_pos (by rw [e1]; simpa using hx), h⟩
      · rw [List.find?_cons_of_neg (by simpa using hx), List.find?_cons_of_neg (by rw [e1]; simpa using hx)]
        exact ih.1
    · rw [List.any_cons, ih.2, Bool.or_false]
      show e.refKey = false
      unfold DictEntry.refKey
      rw [hk]
theorem deeds_mk {dA : Addr} {es : Array DictEntry} {n : Nat} (m : mg "DEEDS" = some (.ref dA)) (at_ : K.lookup dA = some ⟨.type "dict", none, .dict es n, #[]⟩) (lit : PySem.W.KeysLit w.params es.toList) (low : (dA == sysModules) = false) (pr : Paired (EntAt K) es.toList formL) : Deeds K w mg dA es n := by
  refine ⟨m, ⟨at_, lit, low⟩, fun x ks h => ?_, fun x h => ?_⟩
  · have f := (find_ent (x := x) pr).1
    unfold formOf at h
    obtain ⟨p, hp, rfl⟩ := Option.map_eq_some_iff.mp h
    rw [hp] at f
    obtain ⟨e, he, ⟨_, a, hv, hs⟩⟩ := f
    refine ⟨a, ?_, hs⟩
    unfold PySem.W.nsIn
    rw [at_]
    show (match es.toList.find? (·.key.isStr x) with | some e => some (some e.val) | none => if es.toList.any (·.refKey) then none else some none) = _
    rw [he, ← hv]
  · have f := find_ent (x := x) pr
    unfold formOf at h
    rw [Option.map_eq_none_iff.mp h] at f
    unfold PySem.W.nsIn
    rw [at_]
    show (match es.toList.find? (·.key.isStr x) with | some e => some (some e.val) | none => if es.toList.any (·.refKey) then none else some none) = _
    rw [f.1, f.2]
    rfl
end
end My

set_option Elab.async false
set_option linter.all false
set_option maxRecDepth 100000
set_option maxHeartbeats 4000000
namespace My
open PySem L2
/-! ### the pen and a plan, drawn from side by side -/
def planK (a : Int) : List (Key × V) := [(Sum.inr "left", .int a)]
structure Dg (H H' : Hp) (d l : Addr) (ms : List Int) (n n' L' : Int) (q : Addr) (a a' b : Int) : Prop where
  kp : ∀ c o, H c = some o → c ≠ d → c ≠ q → H' c = some o
  pn : Pen H' d l ms n' L'
  pl : H' q = some (.dK (planK a'))
  lo : n ≤ n'
  hi : n' ≤ n + b
  l0 : 0 ≤ a'
  l1 : a' ≤ a
section
variable {H H1 H2 : Hp} {d l q : Addr} {ms : List Int} {n n1 n2 L L1 L2 a a1 a2 b c : Int}
theorem Dg.refl (p : Pen H d l ms n L) (hq : H q = some (.dK (planK a))) (h0 : 0 ≤ a) : Dg H H d l ms n n L q a a 0 := ⟨fun _ _ e _ _ => e, p, hq, Int.le_refl _, by omega, h0, Int.le_refl _⟩
theorem Dg.trans (x : Dg H H1 d l ms n n1 L1 q a a1 b) (y : Dg H1 H2 d l ms n1 n2 L2 q a1 a2 c) : Dg H H2 d l ms n n2 L2 q a a2 (b + c) :=
  ⟨fun e o h h1 h2 => y.kp e o (x.kp e o h h1 h2) h1 h2, y.pn, y.pl, Int.le_trans x.lo y.lo, by have := x.hi; have := y.hi; omega, y.l0, Int.le_trans y.l1 x.l1⟩
theorem Dg.wk (x : Dg H H1 d l ms n n1 L1 q a a1 b) (h : b ≤ c) : Dg H H1 d l ms n n1 L1 q a a1 c := ⟨x.kp, x.pn, x.pl, x.lo, by have := x.hi; omega, x.l0, x.l1⟩
theorem Dg.same (x : Dg H H1 d l ms n n1 L1 q a a1 b) (s : Same H1 H2) : Dg H H2 d l ms n n1 L1 q a a1 b := ⟨fun e o h h1 h2 => s _ _ (x.kp e o h h1 h2), x.pn.same s, s _ _ x.pl, x.lo, x.hi, x.l0, x.l1⟩
/-- a draw alone leaves the plan -/
theorem Dg.of (x : Dr H H1 d l ms n n1 L1 b) (p : Pen H d l ms n L) (hq : H q = some (.dK (planK a))) (hne : q ≠ d) (h0 : 0 ≤ a) : Dg H H1 d l ms n n1 L1 q a a b :=
  ⟨fun e o h h1 _ => x.kp e o h h1, x.pn, x.kp _ _ hq hne, x.lo, x.hi, h0, Int.le_refl _⟩
theorem planK_ne (a : Int) : planK a ≠ [] := by intro z; cases z
theorem Dg.rep (x : Dg H H1 d l ms n n1 L1 q a a1 b) (p : Pen H d l ms n L) (hq : H q = some (.dK (planK a))) (hne : q ≠ d) {k : Nat} {v : V} {t : PyData} (r : Rep H k v t) : Rep H1 k v t := by
  have k1 : Kp d H (fun e => if e = q then H q else H1 e) := fun e o h h1 => by
    by_cases eq : e = q
    · show (if e = q then H q else H1 e) = some o
      rw [if_pos eq, ← eq]; exact h
    · show (if e = q then H q else H1 e) = some o
      rw [if_neg eq]; exact x.kp e o h h1 eq
  have r1 := r.keep p.dc (pen_ne _ _ _) k1
  have hq1 : (fun e => if e = q then H q else H1 e) q = some (.dK (planK a)) := by
    show (if q = q then H q else H1 q) = _
    rw [if_pos rfl]; exact hq
  exact r1.keep hq1 (planK_ne a) fun e o h h1 => by
    have h : (if e = q then H q else H1 e) = some o := h
    rw [if_neg h1] at h; exact h
/-- the plan's cell lowered -/
theorem Dg.take (p : Pen H d l ms n L) (hq : H q = some (.dK (planK a))) (hne : q ≠ d) (hl : l ≠ q) (h0 : 0 < a) : Dg H (upd H q (.dK (planK (a - 1)))) d l ms n n L q a (a - 1) 0 :=
  ⟨fun e o h _ h2 => by rw [upd_ne h2]; exact h, ⟨by rw [upd_ne (Ne.symm hne)]; exact p.dc, by rw [upd_ne hl]; exact p.ls, p.n0, p.l0⟩, upd_same, Int.le_refl _, by omega, by omega, by omega⟩
end
end My

set_option Elab.async false
set_option linter.all false
set_option maxRecDepth 100000
set_option maxHeartbeats 4000000
namespace My
open PySem L2
section
variable {P : Program} {w : World} {K : PySem.W.Frag} {mg : Str → Option Value} {pB : Heap}
/-! ### a part that is drawn -/
def szK : Kd → Nat
  | .w => 9 | .v => 576 | .n => 73 | _ => 1
/-- a part of a deed of a script drawn within j + 1 -/
def spPart (j : Nat) : Sp := fun vs H Q _ => ∃ (d l q : Addr) (ms : List Int) (n L a : Int) (kd : Kd), vs = [.ref d, .str ⟨#[ksign kd]⟩, .ref q, .int ((j + 1 : Nat) : Int)] ∧ Pen H d l ms n L ∧ H q = some (.dK (planK a)) ∧ 0 ≤ a ∧ n + 60000 * a + 40000 ≤ 2 ^ 36 ∧ (j = 0 → kd ≠ .S) ∧
  ∀ (v : V) (x : PyData) (n' L' a' : Int) (H' : Hp) (c : Nat), Rep H' (2 * j + 2) v x → partB (cnt j) kd x = some c → (c : Int) = a - a' → szD x ≤ szK kd + 600 * c → Dg H H' d l ms n n' L' q a a' (60000 * c + 13002) → Q v H'
/-- a script drawn within j + 1 -/
def spScr (j : Nat) : Sp := fun vs H Q _ => ∃ (d l q : Addr) (ms : List Int) (n L a : Int), vs = [.ref d, .ref q, .int ((j + 1 : Nat) : Int)] ∧ Pen H d l ms n L ∧ H q = some (.dK (planK a)) ∧ 0 ≤ a ∧ n + 60000 * a + 20000 ≤ 2 ^ 36 ∧
  ∀ (v : V) (x : PyData) (n' L' a' : Int) (H' : Hp) (c : Nat), Rep H' (2 * j + 4) v x → cnt (j + 1) x = some c → (c : Int) = a - a' → szD x ≤ 1 + 600 * c → Dg H H' d l ms n n' L' q a a' (60000 * c + 1) → Q v H'
def spPrevS : Nat → Sp
  | 0 => spBot
  | j + 1 => spScr j
theorem pen_plan {H : Hp} {d l q : Addr} {ms : List Int} {n L a : Int} (p : Pen H d l ms n L) (hq : H q = some (.dK (planK a))) : q ≠ d := ne_of hq p.dc (by intro z; have := congrArg List.length (HO.dK.inj z); simp [planK, pen] at this)
abbrev sPart : Stmt := top 52
theorem scPart : FnScope ["_law_held", "_law_kind", "_law_plan", "_law_within", "_law_number", "_law_k"] ["_law_held", "_law_kind", "_law_plan", "_law_within"] (defScope sPart) := ⟨rfl, rfl, rfl, by decide +kernel, rfl, by decide +kernel, by decide +kernel⟩
theorem cnt_tup {j c : Nat} {x : PyData} (h : cnt j x = some c) : isNon x = false := by
  cases j with
  | zero => cases h
  | succ j => cases x <;> first | rfl | cases h
theorem partB_scr {j c : Nat} {kd : Kd} {x : PyData} (hk : isScr kd = true) (h : cnt j x = some c) : partB (cnt j) kd x = some c := by
  unfold partB
  rw [if_pos hk, if_neg (fun z => by rw [cnt_tup h] at z; exact absurd z.2 (by decide))]
  exact h
theorem partB_leaf {j : Nat} {kd : Kd} {x : PyData} (hk : isScr kd = false) (h : partOk kd x = true) : partB (cnt j) kd x = some 0 := by
  unfold partB
  rw [if_neg (by rw [hk]; decide), if_pos h]
theorem btw_i {lo hi i : Int} (h : lo ≤ i ∧ i ≤ hi) : btw lo hi (.int i) = true := by
  rw [btw, decide_eq_true h.1, decide_eq_true h.2]; rfl
theorem isW_mono : ∀ {n m : Nat} {t : PyData}, n ≤ m → isW n t = true → isW m t = true
  | 0, m, t, _, h => by
    rcases @notTup t with ⟨ds, rfl⟩ | hn
    · cases h
    · rw [isW_leaf hn] at h ⊢; exact h
  | n + 1, 0, _, hm, _ => absurd hm (by omega)
  | n + 1, m + 1, t, hm, h => by
    rcases @notTup t with ⟨ds, rfl⟩ | hn
    · rw [isW, Bool.and_eq_true, List.all_eq_true] at h ⊢
      exact ⟨h.1, fun x hx => isW_mono (by omega) (h.2 x hx)⟩
    · rw [isW_leaf hn] at h ⊢; exact h
theorem paired_strs (H : Hp) (k : Nat) : ∀ ys : List Str, Paired (Rep H k) (ys.map V.str) (ys.map PyData.str)
  | [] => .nil
  | y :: ys => .cons (rep_s y) (paired_strs H k ys)
theorem szL_strs : ∀ ys : List Str, (∀ y ∈ ys, y.length ≤ 8) → szL (ys.map PyData.str) ≤ 9 * ys.length
  | [], _ => by simp [szL]
  | y :: ys, h => by
    have h1 := szL_strs ys fun z hz => h z (List.mem_cons_of_mem _ hz)
    have h2 := h y (List.mem_cons_self ..)
    rw [List.map_cons, szL, szD, List.length_cons]; omega
theorem step_part {f fS fD fV fW : Addr} {fd dS dD dV dW : FuncData} (F : Fun K "_law_part" "_law_part" sPart f fd) (j : Nat)
    (GS : FnOk P w K mg pB CX0 (2 * j + 6) fS dS ["_law_held", "_law_plan", "_law_within"] (spPrevS j)) (mS : mg "_law_script" = some (.ref fS)) (kS : PySem.W.keepIn K (.ref fS) = true) (bS : Binds K dS ["_law_held", "_law_plan", "_law_within"] [])
    (GD : FnOk P w K mg pB CX0 1 fD dD ["_law_held", "_law_many_here"] spDraw) (mD : mg "_law_draw" = some (.ref fD)) (kD : PySem.W.keepIn K (.ref fD) = true) (bD : Binds K dD ["_law_held", "_law_many_here"] [])
    (GV : FnOk P w K mg pB CX0 3 fV dV ["_law_held"] spWord) (mV : mg "_law_word" = some (.ref fV)) (kV : PySem.W.keepIn K (.ref fV) = true) (bV : Binds K dV ["_law_held"] [])
    (GW : FnOk P w K mg pB CX0 6 fW dW ["_law_held", "_law_within"] (spWor 2)) (mW : mg "_law_worth" = some (.ref fW)) (kW : PySem.W.keepIn K (.ref fW) = true) (bW' : Binds K dW ["_law_held", "_law_within"] [])
    (mInt : mg "int" = none) (mT : mg "tuple" = none) (mR : mg "range" = none) (mMax : mg "max" = none) : FnOk P w K mg pB CX0 (2 * j + 7) f fd ["_law_held", "_law_kind", "_law_plan", "_law_within"] (spPart j) := by
  refine F.ok scPart (fun vs H Q E h => ?_) (fun cdv A outer s H vs Q E hr h => ?_)
  · obtain ⟨d, l, q, ms, n, L, a, kd, rfl, _⟩ := h
    rfl
  · obtain ⟨d, l, q, ms, n, L, a, kd, rfl, p, hq, ha0, hn, hS, kont⟩ := h
    have nd := scPart.nd
    have hr1 : Room 1 _ := hr.mono (by omega)
    have hr3 : Room 3 _ := hr.mono (by omega)
    have hr6 : Room 6 _ := hr.mono (by omega)
    have hne := pen_plan p hq
    refine ⟨_, pss_cons (ps_set (i := 4) nd rfl (Or.inl rfl) (pe_ix ix_list (pe_lst (pa_cons pe_int (pa_cons pe_int (pa_cons (pe_call GD hr1 rfl mD kD bD .nil pass0 (pa_cons (pv 0) (pa_cons pe_int pa_nil))) (pa_cons pe_int pa_nil)))))
          (pe_call GD hr1 rfl mD kD bD .nil pass0 (pa_cons (pv 0) (pa_cons pe_int pa_nil))) (fun _ _ => rfl)))
      (pss_cons (ps_if (pt_cmpR op_eq (pv 1) pe_str (nomark _)) (pss_one (ps_ret (pe_ix ix_list (pe_lst (pa_cons pe_non (pa_cons (pv 4) pa_nil))) (pe_call GD hr1 rfl mD kD bD .nil pass0 (pa_cons (pv 0) (pa_cons pe_int pa_nil))) (fun _ _ => rfl)))) pss_nil)
      (pss_cons (ps_if (pt_cmpR op_in_sign (pv 1) pe_str rfl) (pss_one (ps_ret (pe_callB (call_max2 rfl) (by rfl) mMax (by decide +kernel) (pa_cons (pv 4) (pa_cons (pe_callTy call_int1 (by rfl) mInt (by decide +kernel) (pa_cons (pe_cmpR op_eq (pv 1) pe_str (nomark _)) pa_nil)) pa_nil))))) pss_nil)
      (pss_cons (ps_if (pt_cmpR op_in_sign (pv 1) pe_str rfl) (pss_one (ps_ret (pe_ifExp (pt_cmpR op_eq (pv 1) pe_str (nomark _)) (pe_call GV hr3 rfl mV kV bV .nil pass0 (pa_cons (pv 0) pa_nil)) (pe_call GD hr1 rfl mD kD bD .nil pass0 (pa_cons (pv 0) (pa_cons pe_int pa_nil)))))) pss_nil)
      (pss_cons (ps_if (pt_cmpR op_in_sign (pv 1) pe_str rfl) (pss_one (ps_ret (pe_ifExp (pt_cmpR op_eq (pv 1) pe_str (nomark _)) (pe_call GW hr6 rfl mW kW bW' .nil pass0 (pa_cons (pv 0) (pa_cons pe_int pa_nil)))
          (pe_tupleOf (by rfl) mT (pe_lc (own := [("_law_k", 5)]) (g := gName 5) (tt := tYes) (te := tCall spWord [] E0 (tCons (tVar 0) tNil)) rfl nd
            (pi_range1 rfl mR (pa_cons (pe_call GD hr1 rfl mD kD bD .nil pass0 (pa_cons (pv 0) (pa_cons pe_int pa_nil))) pa_nil))
            (blkOk_by (N := ["_law_held", "_law_kind", "_law_plan", "_law_within", "_law_number", "_law_k"]) (sc := defScope sPart) (by decide +kernel)) (fun _ _ _ _ _ => pg_name (i := 5) nd rfl (Or.inl rfl) (Or.inr rfl)) (fun _ _ _ _ _ => pts_nil)
            (fun _ _ _ _ _ => pe_call GV hr3 rfl mV kV bV .nil pass0 (pa_cons (pv 0) pa_nil))))))) pss_nil)
      (pss_cons (ps_if (PW.pt (pw_and (pt_cmpR op_eq (pv 1) pe_str (nomark _)) (pw_and1 (PW.pt (pw_or (pt_cmpR op_lt (pv 3) pe_int (nomark _)) (pw_or1 (pt_cmpR op_eq (pe_call GD hr1 rfl mD kD bD .nil pass0 (pa_cons (pv 0) (pa_cons pe_int pa_nil))) pe_int (nomark _)))))))) (pss_one (ps_ret pe_non)) pss_nil)
      (pss_one (ps_ret (pe_call GS hr rfl mS kS bS .nil pass0 (pa_cons (pv 0) (pa_cons (pv 2) (pa_cons (pe_op op_sub (pv 3) pe_int) pa_nil))))))))))), ?_⟩
    refine asg_n (rd_dr (m := 1001) rfl (fun _ h => h) p (by omega) (by decide) (by decide) fun r1 n1 L1 H1 a0 a1 x1 => ⟨by show 4 ≤ sizeLine; decide, fun u hu => ?_⟩)
    have s2 : Same H1 (upd H1 u (.lst [.int 0, .int 1, .int r1, .int 1000])) := Same.new (Same.refl _) hu
    have h1 := x1.hi
    refine rd_dr (m := 4) rfl (fun _ h => h) (x1.pn.same s2) (by omega) (by decide) (by decide) fun r2 n2 L2 H2 b0 b1 x2 => ?_
    have cu : H2 u = some (.lst [.int 0, .int 1, .int r1, .int 1000]) := x2.kp _ _ upd_same (ne_of upd_same (x1.pn.same s2).dc (by intro z; cases z))
    obtain ⟨v, hv, hat, _⟩ := atI_of (xs := [V.int 0, V.int 1, V.int r1, V.int 1000]) b0 b1
    have hx : ∃ i : Int, v = .int i ∧ 0 ≤ i ∧ i ≤ 1000 := by
      simp only [List.mem_cons, List.mem_nil_iff, or_false] at hv
      rcases hv with rfl | rfl | rfl | rfl
      · exact ⟨_, rfl, by decide, by decide⟩
      · exact ⟨_, rfl, by decide, by decide⟩
      · exact ⟨_, rfl, by omega, by omega⟩
      · exact ⟨_, rfl, by decide, by decide⟩
    refine ⟨u, _, _, v, rfl, rfl, SqL.of cu, hat, ?_⟩
    obtain ⟨num, rfl, num0, num1⟩ := hx
    have x : Dr H H2 d l ms n n2 L2 2 := ((x1.same s2).trans x2).wk (by decide)
    have h2 := x.hi
    have g2 : Dg H H2 d l ms n n2 L2 q a a 2 := Dg.of x p hq hne ha0
    clear hat cu hv x1 x2 s2 a0 a1 b0 b1 h1 hu
    have leafK : ∀ (v : V) (t : PyData) (n' L' : Int) (H' : Hp), isScr kd = false → Rep H' (2 * j + 2) v t → partOk kd t = true → szD t ≤ szK kd → Dr H2 H' d l ms n2 n' L' 13000 → Q v H' := fun v t n' L' H' hk hr ho hz x => kont v t n' L' a H' 0 hr (partB_leaf hk ho) (by omega) (by omega) ((g2.trans (Dg.of x g2.pn g2.pl hne ha0)).wk (by omega))
    have scrK : ∀ (n3 L3 : Int) (H3 : Hp), Dr H2 H3 d l ms n2 n3 L3 1 → isScr kd = true → 0 < j → tCall (spPrevS j) [] E0 (tCons (tVar 0) (tCons (tVar 2) (tCons (tOp (rI0 fun i j => V.int (i - j)) (tVar 3) (tC (V.int 1))) tNil))) [some (.ref d), some (.str ⟨#[ksign kd]⟩), some (.ref q), some (.int ((j + 1 : Nat) : Int)), some (.int num), none] H3 Q := by
      intro n3 L3 H3 x3 hk hj
      have h3 := x3.hi
      have g3 := g2.trans (Dg.of x3 g2.pn g2.pl hne ha0)
      obtain ⟨i, rfl⟩ : ∃ i, j = i + 1 := ⟨j - 1, by omega⟩
      refine call_of ⟨_, rfl, _, rfl, _, rfl, _, _, rfl, rfl, d, l, q, ms, n3, L3, a, ?_, g3.pn, g3.pl, ha0, by omega, fun v t n4 L4 a4 H4 c hr4 hc ec hz x4 => ?_⟩
      · show [V.ref d, V.ref q, V.int (((i + 1 + 1 : Nat) : Int) - 1)] = [V.ref d, V.ref q, V.int ((i + 1 : Nat) : Int)]
        rw [show (((i + 1 + 1 : Nat) : Int) - 1) = ((i + 1 : Nat) : Int) by omega]
      · exact kont v t n4 L4 a4 H4 c (hr4.mono (by omega)) (partB_scr hk hc) ec (Nat.le_trans hz (Nat.add_le_add_right (by cases kd <;> first | decide | cases hk) _)) ((g3.trans x4).wk (by omega))
    cases kd with
    | w =>
      refine ⟨_, rfl, rfl, _, rfl, iteN (by decide +kernel) ?_⟩
      refine ⟨_, rfl, 119, "ke", rfl, rfl, _, rfl, iteN (by decide +kernel) ?_⟩
      refine ⟨_, rfl, 119, "wr", rfl, rfl, _, rfl, iteY (by decide +kernel) ?_⟩
      refine ⟨_, rfl, rfl, _, rfl, iteY (by decide +kernel) ?_⟩
      exact ⟨_, rfl, d, l, ms, n2, L2, rfl, x.pn, by omega, fun xw n3 L3 H3 hx hw x3 => leafK (.str xw) (.str xw) n3 L3 H3 rfl (rep_s xw) hw (by rw [szD]; show 1 + xw.length ≤ 9; omega) (x3.wk (by decide))⟩
    | k =>
      refine ⟨_, rfl, rfl, _, rfl, iteN (by decide +kernel) ?_⟩
      refine ⟨_, rfl, 107, "ke", rfl, rfl, _, rfl, iteY (by decide +kernel) ?_⟩
      refine ⟨_, rfl, _, rfl, rfl, .inr ⟨_, rfl, _, _, rfl, ?_⟩⟩
      refine leafK _ (.int _) n2 L2 H2 rfl (rep_i _) (btw_i ?_) (Nat.le_refl 1) ((Dr.refl x.pn).wk (by decide))
      split <;> split <;> omega
    | e =>
      refine ⟨_, rfl, rfl, _, rfl, iteN (by decide +kernel) ?_⟩
      refine ⟨_, rfl, 101, "ke", rfl, rfl, _, rfl, iteY (by decide +kernel) ?_⟩
      refine ⟨_, rfl, _, rfl, rfl, .inr ⟨_, rfl, _, _, rfl, ?_⟩⟩
      refine leafK _ (.int _) n2 L2 H2 rfl (rep_i _) (btw_i ?_) (Nat.le_refl 1) ((Dr.refl x.pn).wk (by decide))
      rw [if_pos (show decide (V.str ⟨#[ksign Kd.e]⟩ = V.str "e") = true by decide +kernel)]
      split <;> omega
    | r =>
      refine ⟨_, rfl, rfl, _, rfl, iteN (by decide +kernel) ?_⟩
      refine ⟨_, rfl, 114, "ke", rfl, rfl, _, rfl, iteN (by decide +kernel) ?_⟩
      refine ⟨_, rfl, 114, "wr", rfl, rfl, _, rfl, iteY (by decide +kernel) ?_⟩
      refine ⟨_, rfl, rfl, _, rfl, iteN (by decide +kernel) ?_⟩
      exact rd_dr (m := 6) rfl (fun _ h => h) x.pn (by omega) (by decide) (by decide) fun r n3 L3 H3 c0 c1 x3 => leafK (.int r) (.int r) n3 L3 H3 rfl (rep_i _) (btw_i ⟨by omega, by omega⟩) (Nat.le_refl 1) (x3.wk (by decide))
    | i =>
      refine ⟨_, rfl, rfl, _, rfl, iteY (by decide +kernel) ?_⟩
      refine ⟨_, rfl, by show 2 ≤ sizeLine; decide, fun u hu => ?_⟩
      have s3 : Same H2 (upd H2 u (.lst [.non, .int num])) := Same.new (Same.refl _) hu
      refine rd_dr (m := 2) rfl (fun _ h => h) (x.pn.same s3) (by omega) (by decide) (by decide) fun r n3 L3 H3 c0 c1 x3 => ?_
      have cu : H3 u = some (.lst [.non, .int num]) := x3.kp _ _ upd_same (ne_of upd_same (x.pn.same s3).dc (by intro z; cases z))
      obtain ⟨v, hv, hat, _⟩ := atI_of (xs := [V.non, V.int num]) c0 c1
      refine ⟨u, _, _, v, rfl, rfl, SqL.of cu, hat, ?_⟩
      have x4 : Dr H2 H3 d l ms n2 n3 L3 13000 := (((Dr.refl x.pn).same s3).trans x3).wk (by decide)
      rcases List.mem_cons.mp hv with rfl | hv
      · exact leafK .non .none n3 L3 H3 rfl rep_n rfl (Nat.le_refl 1) x4
      · rw [List.mem_singleton.mp hv]
        refine leafK (.int num) (.int num) n3 L3 H3 rfl (rep_i _) ?_ (Nat.le_refl 1) x4
        show (isNon (.int num) || btw 0 1000 (.int num)) = true
        rw [show btw 0 1000 (.int num) = true from btw_i ⟨num0, num1⟩, Bool.or_true]
    | v =>
      refine ⟨_, rfl, rfl, _, rfl, iteN (by decide +kernel) ?_⟩
      refine ⟨_, rfl, 118, "ke", rfl, rfl, _, rfl, iteN (by decide +kernel) ?_⟩
      refine ⟨_, rfl, 118, "wr", rfl, rfl, _, rfl, iteN (by decide +kernel) ?_⟩
      refine ⟨_, rfl, 118, "vn", rfl, rfl, _, rfl, iteY (by decide +kernel) ?_⟩
      refine ⟨_, rfl, rfl, _, rfl, iteY (by decide +kernel) ?_⟩
      have hb : bW 2 = 12630 := by decide
      refine ⟨_, rfl, d, l, ms, n2, L2, rfl, x.pn, by rw [hb]; omega, fun v t n3 L3 H3 hr3 hz hw x3 => leafK v t n3 L3 H3 rfl (hr3.mono (by omega)) (isW_mono (by decide) hw) (Nat.le_trans hz (by decide)) (x3.wk (by rw [hb]; decide))⟩
    | n =>
      refine ⟨_, rfl, rfl, _, rfl, iteN (by decide +kernel) ?_⟩
      refine ⟨_, rfl, 110, "ke", rfl, rfl, _, rfl, iteN (by decide +kernel) ?_⟩
      refine ⟨_, rfl, 110, "wr", rfl, rfl, _, rfl, iteN (by decide +kernel) ?_⟩
      refine ⟨_, rfl, 110, "vn", rfl, rfl, _, rfl, iteY (by decide +kernel) ?_⟩
      refine ⟨_, rfl, rfl, _, rfl, iteN (by decide +kernel) ?_⟩
      refine rd_dr (m := 9) rfl (fun _ h => h) x.pn (by omega) (by decide) (by decide) fun r n3 L3 H3 c0 c1 x3 => ?_
      have h3 := x3.hi
      refine ⟨_, rfl, by omega, by omega, fun D hD => ?_⟩
      refine lc_range (lo := 0) (n := r.toNat) (fun i H' => ∃ (n' L' : Int) (ys : List Str), Dr H3 H' d l ms n3 n' L' ((i : Int) * 20) ∧ ys.length = i ∧ H' D = some (.lst (ys.map V.str)) ∧ ∀ y ∈ ys, y.length ≤ 8 ∧ isWd y = true)
        ⟨n3, L3, [], ((Dr.refl x3.pn).same (Same.new (Same.refl _) hD)).wk (by simp), rfl, upd_same, fun t h => nomatch h⟩ (fun i H' hi p' => ?_) (fun H' p' => ?_)
      · obtain ⟨n', L', ys, y1, hl, hD', hys⟩ := p'
        have h4 := y1.hi
        refine ⟨rfl, yes_of (iteT (call_of ⟨_, rfl, d, l, ms, n', L', rfl, y1.pn, by omega, fun xw n5 L5 H5 hx5 hw5 x5 => ?_⟩))⟩
        have hD5 := x5.kp _ _ hD' (ne_of hD' y1.pn.dc (by intro z; cases z))
        refine ⟨ys.map V.str, hD5, by rw [List.length_map]; exact Nat.lt_of_le_of_lt (show ys.length ≤ 20 by omega) (by decide), n5, L5, ys ++ [xw], ?_, by rw [List.length_append, hl]; rfl, by rw [List.map_append]; exact upd_same, fun t ht => (List.mem_append.mp ht).elim (hys t) fun z => by rw [List.mem_singleton.mp z]; exact ⟨hx5, hw5⟩⟩
        exact ((y1.trans x5).upd x3.pn hD).wk (by omega)
      · obtain ⟨n', L', ys, y1, hl, hD', hys⟩ := p'
        have h4 := y1.hi
        refine .inl ⟨D, _, rfl, SqL.of hD', fun tq htq => ?_⟩
        have s7 : Same H' (upd H' tq (.tup (ys.map V.str))) := Same.new (Same.refl _) htq
        refine leafK (.ref tq) (.tuple (ys.map PyData.str)) n' L' _ rfl (rep_t (k := 2 * j + 1) upd_same (paired_strs _ _ ys)) ?_ ?_ (((x3.trans y1).same s7).wk (by omega))
        · show (decide ((ys.map PyData.str).length ≤ 8) && (ys.map PyData.str).all wdD) = true
          rw [List.length_map, decide_eq_true (by omega), Bool.true_and, List.all_eq_true]
          intro t ht
          obtain ⟨y, hy, rfl⟩ := List.mem_map.mp ht
          exact (hys y hy).2
        · have hz := szL_strs ys (fun y hy => (hys y hy).1)
          rw [szD]
          show 1 + szL (ys.map PyData.str) ≤ 73
          omega
    | S =>
      refine ⟨_, rfl, rfl, _, rfl, iteN (by decide +kernel) ?_⟩
      refine ⟨_, rfl, 83, "ke", rfl, rfl, _, rfl, iteN (by decide +kernel) ?_⟩
      refine ⟨_, rfl, 83, "wr", rfl, rfl, _, rfl, iteN (by decide +kernel) ?_⟩
      refine ⟨_, rfl, 83, "vn", rfl, rfl, _, rfl, iteN (by decide +kernel) ?_⟩
      refine ⟨_, rfl, rfl, _, rfl, iteN (by decide +kernel) (iteF ?_)⟩
      exact scrK n2 L2 H2 ((Dr.refl x.pn).wk (by decide)) rfl (Nat.pos_of_ne_zero fun z => hS z rfl)
    | s =>
      refine ⟨_, rfl, rfl, _, rfl, iteN (by decide +kernel) ?_⟩
      refine ⟨_, rfl, 115, "ke", rfl, rfl, _, rfl, iteN (by decide +kernel) ?_⟩
      refine ⟨_, rfl, 115, "wr", rfl, rfl, _, rfl, iteN (by decide +kernel) ?_⟩
      refine ⟨_, rfl, 115, "vn", rfl, rfl, _, rfl, iteN (by decide +kernel) ?_⟩
      refine ⟨_, rfl, rfl, _, rfl, iteY (by decide +kernel) ?_⟩
      have nonK : ∀ (n' L' : Int) (H' : Hp), Dr H2 H' d l ms n2 n' L' 13000 → Q .non H' := fun n' L' H' x' => kont .non .none n' L' a H' 0 rep_n rfl (by omega) (Nat.le_refl 1) ((g2.trans (Dg.of x' g2.pn g2.pl hne ha0)).wk (by omega))
      by_cases hj : j = 0
      · subst hj
        exact ⟨_, rfl, _, _, rfl, rfl, _, rfl, iteY (by decide) (iteT (nonK n2 L2 H2 ((Dr.refl x.pn).wk (by decide))))⟩
      · refine ⟨_, rfl, _, _, rfl, rfl, _, rfl, iteN (by omega) ?_⟩
        refine rd_dr (m := 3) rfl (fun _ h => h) x.pn (by omega) (by decide) (by decide) fun r n3 L3 H3 c0 c1 x3 => ⟨rfl, _, rfl, ite2 (fun c => ?_) (fun c => ?_)⟩
        · exact nonK n3 L3 H3 (x3.wk (by decide))
        · exact scrK n3 L3 H3 x3 rfl (Nat.pos_of_ne_zero hj)
end
end My

set_option Elab.async false
set_option linter.all false
set_option maxRecDepth 100000
set_option maxHeartbeats 4000000
namespace My
open PySem L2
section
variable {P : Program} {w : World} {K : PySem.W.Frag} {mg : Str → Option Value} {pB : Heap}
theorem Dg.upd {H H' : Hp} {d l q D : Addr} {ms : List Int} {n n' L L' a a' b : Int} {o : HO} (x : Dg H H' d l ms n n' L' q a a' b) (p : Pen H d l ms n L) (hq : H q = some (.dK (planK a))) (hD : H D = none) : Dg H (L2.upd H' D o) d l ms n n' L' q a a' b :=
  ⟨fun c u e h1 h2 => by rw [upd_ne (ne_of_none e hD)]; exact x.kp c u e h1 h2, ⟨by rw [upd_ne (ne_of_none p.dc hD)]; exact x.pn.dc, by rw [upd_ne (ne_of_none p.ls hD)]; exact x.pn.ls, x.pn.n0, x.pn.l0⟩, by rw [upd_ne (ne_of_none hq hD)]; exact x.pl, x.lo, x.hi, x.l0, x.l1⟩
/-! ### the words of forms -/
def wOk (j : Nat) (p : Str × List Kd) : Bool := decide (0 < j) || !decide (Kd.S ∈ p.2)
def wordsL (j : Nat) : List V := (formL.filter (wOk j)).map fun p => V.str p.1
theorem form_of : ∀ p ∈ formL, formOf p.1 = some p.2 := by decide +kernel
theorem form_sz : ∀ p ∈ formL, (p.2.map szK).sum ≤ 585 ∧ p.1.length ≤ 8 ∧ p.2.length ≤ 4 := by decide +kernel
theorem words_len : ∀ j, 0 < (wordsL j).length ∧ (wordsL j).length ≤ 30
  | 0 => by decide +kernel
  | j + 1 => by
    have e : wordsL (j + 1) = wordsL 1 := by
      unfold wordsL
      refine congrArg _ (congrArg (fun g => List.filter g formL) (funext fun p => ?_))
      unfold wOk
      rw [decide_eq_true (show 0 < j + 1 by omega)]
      rfl
    rw [e]; decide +kernel
theorem sign_S (ks : List Kd) : decide (83 ∈ (ksignS ks).cps.toList) = decide (Kd.S ∈ ks) := by
  have e : (83 ∈ (ksignS ks).cps.toList) ↔ Kd.S ∈ ks := by
    show 83 ∈ (ks.map ksign).toArray.toList ↔ _
    rw [List.toList_toArray, List.mem_map]
    refine ⟨fun ⟨k, hk, e⟩ => ?_, fun h => ⟨_, h, rfl⟩⟩
    cases k <;> first | exact hk | exact absurd e (by decide)
  exact decide_eq_decide.mpr e
theorem sumO_s1 {l : List (Option Nat)} {a b : Nat} (h : sumO l = some a) : sumO (l ++ [some b]) = some (a + b) := by
  rw [sumO_app, h]; rfl
theorem plan_get {H : Hp} {q : Addr} {a : Int} (h : H q = some (.dK (planK a))) : DGet H q (.str "left") (some (.int a)) := by
  have h := DGet.k (k := (Sum.inr "left" : Key)) h
  rw [show valV (planK a) (Sum.inr "left") = some (.int a) from valV_pos rfl] at h
  exact h
theorem plan_put {H : Hp} {q : Addr} {a b : Int} (h : H q = some (.dK (planK a))) : DPut H q (.str "left") (.int b) (L2.upd H q (.dK (planK b))) := by
  have h := DPut.k (k := (Sum.inr "left" : Key)) (v := .int b) h (by show 1 < sizeLine; decide)
  rw [show putK (planK a) (Sum.inr "left") (.int b) = planK b by simp [putK, planK]] at h
  exact h
theorem mem_words {j : Nat} {x : V} (h : x ∈ wordsL j) : ∃ p ∈ formL, x = .str p.1 ∧ (j = 0 → Kd.S ∉ p.2) := by
  obtain ⟨p, hp, rfl⟩ := List.mem_map.mp h
  obtain ⟨h1, h2⟩ := List.mem_filter.mp hp
  refine ⟨p, h1, rfl, fun e => ?_⟩
  subst e
  intro z
  unfold wOk at h2
  rw [decide_eq_true z] at h2
  exact absurd h2 (by decide)
theorem form_get {H : Hp} {q : Addr} {p : Str × List Kd} (h : H q = some (.dK formK)) (hp : p ∈ formL) : DGet H q (.str p.1) (some (.str (ksignS p.2))) := by
  have h := DGet.k (k := (Sum.inr p.1 : Key)) h
  rw [val_form, form_of p hp] at h
  exact h
theorem form_getF {H : Hp} {q : Addr} {o : Obj} {p : Str × List Kd} (h : H q = some (.frz o (.dK formK))) (hp : p ∈ formL) : DGet H q (.str p.1) (some (.str (ksignS p.2))) := by
  have e : some (V.str (ksignS p.2)) = valV formK (Sum.inr p.1) := by rw [val_form, form_of p hp]; rfl
  exact .inl ⟨formK, Sum.inr p.1, .inr ⟨o, h⟩, rfl, e⟩
abbrev sScr : Stmt := top 53
abbrev nScr : List Str := ["_law_held", "_law_plan", "_law_within", "_law_rows", "_law_forms_here", "_law_words", "_law_k", "_law_word_here", "_law_kind"]
theorem scScr : FnScope nScr ["_law_held", "_law_plan", "_law_within"] (defScope sScr) := ⟨rfl, rfl, rfl, by decide +kernel, rfl, by decide +kernel, by decide +kernel⟩
theorem step_scr {f fP fF fK fD : Addr} {fd dP dF dK dD : FuncData} (F : Fun K "_law_script" "_law_script" sScr f fd) (j : Nat)
    (GP : FnOk P w K mg pB CX0 (2 * j + 7) fP dP ["_law_held", "_law_kind", "_law_plan", "_law_within"] (spPart j)) (mP : mg "_law_part" = some (.ref fP)) (kP : PySem.W.keepIn K (.ref fP) = true) (bP : Binds K dP ["_law_held", "_law_kind", "_law_plan", "_law_within"] [])
    (GF : FnOk P w K mg pB CX0 1 fF dF [] spForms) (mF : mg "_law_forms" = some (.ref fF)) (kF : PySem.W.keepIn K (.ref fF) = true) (bF : Binds K dF [] [])
    (GK : FnOk P w K mg pB CX0 2 fK dK ["_law_held", "_law_some"] spPick) (mK : mg "_law_pick" = some (.ref fK)) (kK : PySem.W.keepIn K (.ref fK) = true) (bK : Binds K dK ["_law_held", "_law_some"] [])
    (GD : FnOk P w K mg pB CX0 1 fD dD ["_law_held", "_law_many_here"] spDraw) (mD : mg "_law_draw" = some (.ref fD)) (kD : PySem.W.keepIn K (.ref fD) = true) (bD : Binds K dD ["_law_held", "_law_many_here"] [])
    (mT : mg "tuple" = none) (mR : mg "range" = none) : FnOk P w K mg pB CX0 (2 * j + 8) f fd ["_law_held", "_law_plan", "_law_within"] (spScr j) := by
  refine F.ok scScr (fun vs H Q E h => ?_) (fun cdv A outer s H vs Q E hr h => ?_)
  · obtain ⟨d, l, q, ms, n, L, a, rfl, _⟩ := h
    rfl
  · obtain ⟨d, l, q, ms, n, L, a, rfl, p, hq, ha0, hn, kont⟩ := h
    have nd := scScr.nd
    have hr1 : Room 1 _ := hr.mono (by omega)
    have hr2 : Room 2 _ := hr.mono (by omega)
    have hu := hu_of hr
    have hne := pen_plan p hq
    refine ⟨_, pss_cons (ps_asg (pe_tup (pa_cons (pe_lst pa_nil) (pa_cons (pe_call0 GF hr1 rfl mF kF bF .nil pass0) pa_nil))) (pg_tup rfl (pgs_cons (pg_name (i := 3) nd rfl (Or.inl rfl)) (pgs_cons (pg_name (i := 4) nd rfl (Or.inr rfl)) pgs_nil))))
      (pss_cons (ps_lock (ps_setLc (i := 5) (own := [("_law_word_here", 7)]) (g := gName 7) (tt := tOr (tTest (tOp (rI0 fun i j => .bl (decide (j < i))) (tVar 2) (tC (.int 1)))) (tTest (tOp (fun x y H Q => ∃ (c : Nat) (z : Str), x = .str ⟨#[c]⟩ ∧ y = .str z ∧ Q (.bl (!decide (c ∈ z.cps.toList))) H) (tC (.str "S")) (tDGet (tVar 4) (tVar 7))))) (te := tVar 7) rfl nd rfl rfl (sw_true rfl rfl rfl (by decide +kernel)) (pi_keys (pv 4))
          (blkOk_by (N := nScr) (sc := defScope sScr) (by decide +kernel)) (fun _ _ _ _ _ => pg_name (i := 7) nd rfl (Or.inl rfl) (Or.inr rfl))
          (fun _ _ _ _ _ => pts_one (PW.pt (pw_or (pt_cmpR op_gt (pv 2) pe_int (nomark _)) (pw_or1 (pt_cmpR op_notIn_sign pe_str (pe_dget hu (pv 4) (pv 7) (fun _ _ => rfl)) rfl))))) (fun _ _ _ _ _ => pv 7)))
      (pss_cons (ps_for PassesOwn.never rfl (pi_range1 rfl mR (pa_cons (pe_call GD hr1 rfl mD kD bD .nil pass0 (pa_cons (pv 0) (pa_cons pe_int pa_nil))) pa_nil)) (pg_name (i := 6) nd rfl (Or.inl rfl))
        (pss_one (ps_if (pt_cmpR op_gt (pe_dget hu (pv 1) pe_str (fun _ _ => rfl)) pe_int (nomark _))
          (pss_cons (ps_dput hu (pv 1) pe_str (pe_op op_sub (pe_dget hu (pv 1) pe_str (fun _ _ => rfl)) pe_int) rfl)
          (pss_cons (ps_set (i := 7) nd rfl (Or.inl rfl) (pe_call GK hr2 rfl mK kK bK .nil pass0 (pa_cons (pv 0) (pa_cons (pv 5) pa_nil))))
          (pss_one (ps_expr (pe_bm PySem.F.plainAttrs_list PySem.F.slot_list_append PySem.F.type_list_append mt_append (pv 3) (pa_cons (pe_tupleOf (by rfl) mT (pe_op op_cat (pe_lst (pa_cons (pv 7) pa_nil))
            (pe_lc (own := [("_law_kind", 8)]) (g := gName 8) (tt := tYes) (te := tCall (spPart j) [] E0 (tCons (tVar 0) (tCons (tVar 8) (tCons (tVar 1) (tCons (tVar 2) tNil))))) rfl nd (pi_str (pe_dget hu (pv 4) (pv 7) (fun _ _ => rfl)))
              (blkOk_by (N := nScr) (sc := defScope sScr) (by decide +kernel)) (fun _ _ _ _ _ => pg_name (i := 8) nd rfl (Or.inl rfl) (Or.inr rfl)) (fun _ _ _ _ _ => pts_nil)
              (fun _ _ _ _ _ => pe_call GP hr rfl mP kP bP .nil pass0 (pa_cons (pv 0) (pa_cons (pv 8) (pa_cons (pv 1) (pa_cons (pv 2) pa_nil)))))))) pa_nil)))))) pss_nil)))
      (pss_one (ps_ret (pe_tupleOf (by rfl) mT (pv 3)))))), ?_⟩
    refine asg_of ⟨Nat.zero_le _, fun R hR => ⟨rfl, fun Fm J sJ cF => ⟨by show 2 ≤ sizeLine; decide, fun tq htq => ⟨tq, _, rfl, SqT.of upd_same, rfl, _, _, rfl, _, _, rfl, rfl, ?_⟩⟩⟩⟩
    have cR : J R = some (.lst []) := sJ _ _ upd_same
    have s0 : Same H J := (Same.new (Same.refl _) hR).trans sJ
    have s1 : Same J (L2.upd J tq (.tup [.ref R, .ref Fm])) := Same.new (Same.refl _) htq
    have cF1 := s1 _ _ cF
    have cR1 := s1 _ _ cR
    have s01 := s0.trans s1
    generalize L2.upd J tq (.tup [.ref R, .ref Fm]) = J1 at s1 cF1 cR1 s01 ⊢
    refine ⟨Fm, .dK formK, cF1, trivial, fun od => ?_⟩
    refine ⟨_, rfl, Fm, od, rfl, .inl ⟨formK, upd_same, fun D hD => ?_⟩⟩
    have hDF : D ≠ Fm := fun z => by rw [z, upd_same] at hD; cases hD
    have hD1 : J1 D = none := by rw [upd_ne hDF] at hD; exact hD
    have hDR : D ≠ R := fun z => by rw [z, cR1] at hD1; cases hD1
    have hDH : H D = none := by
      cases e : H D with
      | none => rfl
      | some o => rw [s01 _ _ e] at hD1; cases hD1
    refine lc_it walk_keys (fun i H' => Same (L2.upd J1 Fm (.frz od (.dK formK))) H' ∧ H' D = some (.lst (((formL.take i).filter (wOk j)).map fun p => V.str p.1))) ⟨Same.new (Same.refl _) hD, upd_same⟩ (fun i H' _ p' => p'.1 _ _ upd_same) (fun i x H2 H3 hi p' y => ?_) (fun H2 p' => ?_)
    · obtain ⟨rfl, k, v, hk, rfl⟩ := y
      obtain ⟨p1, p2⟩ := p'
      obtain ⟨p0, hp0, e0⟩ : ∃ p0, formL[i]? = some p0 ∧ (Sum.inr p0.1, V.str (ksignS p0.2)) = (k, v) := by
        unfold formK at hk
        rw [List.getElem?_map] at hk
        exact Option.map_eq_some_iff.mp hk
      cases e0
      have hm0 : p0 ∈ formL := List.mem_of_getElem? hp0
      have hlen : (((formL.take i).filter (wOk j)).map fun p => V.str p.1).length < sizeLine := by
        rw [List.length_map]
        exact Nat.lt_of_le_of_lt (List.length_filter_le _ _) (Nat.lt_of_le_of_lt (List.length_take_le' _ _) (by decide +kernel))
      have yes : wOk j p0 = true → ∃ acc, H3 D = some (.lst acc) ∧ acc.length < sizeLine ∧ (Same (L2.upd J1 Fm (.frz od (.dK formK))) (L2.upd H3 D (.lst (acc ++ [V.str p0.1]))) ∧ (L2.upd H3 D (.lst (acc ++ [V.str p0.1]))) D = some (.lst (((formL.take (i + 1)).filter (wOk j)).map fun p => V.str p.1))) := fun hw => by
        refine ⟨_, p2, hlen, fun b o e => ?_, ?_⟩
        · rw [upd_ne (ne_of_none e hD)]; exact p1 b o e
        · rw [upd_same, take_snoc hp0, List.filter_append, List.filter_cons_of_pos hw, List.map_append]; rfl
      have no : wOk j p0 = false → Same (L2.upd J1 Fm (.frz od (.dK formK))) H3 ∧ H3 D = some (.lst (((formL.take (i + 1)).filter (wOk j)).map fun p => V.str p.1)) := fun hw => by
        refine ⟨p1, ?_⟩
        rw [take_snoc hp0, List.filter_append, List.filter_cons_of_neg (by rw [hw]; decide), List.filter_nil, List.append_nil]
        exact p2
      refine ⟨rfl, ?_⟩
      by_cases hj : 0 < j
      · refine ⟨_, rfl, _, _, rfl, rfl, _, rfl, iteY (by omega) (iteT ⟨_, rfl, yes ?_⟩)⟩
        unfold wOk
        rw [decide_eq_true hj]; rfl
      · refine ⟨_, rfl, _, _, rfl, rfl, _, rfl, iteN (by omega) ?_⟩
        refine ⟨_, rfl, _, rfl, Fm, _, rfl, form_getF (p1 _ _ upd_same) hm0, 83, ksignS p0.2, rfl, rfl, _, rfl, ?_⟩
        rw [sign_S]
        by_cases hS : Kd.S ∈ p0.2
        · rw [decide_eq_true hS]
          refine iteF (no ?_)
          unfold wOk
          rw [decide_eq_true hS, decide_eq_false hj]; rfl
        · rw [decide_eq_false hS]
          refine iteT ⟨_, rfl, yes ?_⟩
          unfold wOk
          rw [decide_eq_false hS, decide_eq_false hj]; rfl
    obtain ⟨p1, p2⟩ := p'
    refine ⟨p1 _ _ upd_same, ?_⟩
    have cW2 : H2 D = some (.lst (wordsL j)) := by
      rw [p2, List.take_of_length_le (by decide +kernel)]; rfl
    have cR2 : H2 R = some (.lst []) := p1 _ _ (by rw [upd_ne (ne_of cR1 cF1 (by intro z; cases z))]; exact cR1)
    have sH2 : Same H (L2.upd H2 Fm (.dK formK)) := fun b o e => by
      have e1 := s01 _ _ e
      by_cases hb : b = Fm
      · rw [hb] at e1 ⊢
        rw [upd_same, ← cF1]; exact e1
      · rw [upd_ne hb]
        exact p1 _ _ (by rw [upd_ne hb]; exact e1)
    have cF5 : (L2.upd H2 Fm (.dK formK)) Fm = some (.dK formK) := upd_same
    have cW5 : (L2.upd H2 Fm (.dK formK)) D = some (.lst (wordsL j)) := by rw [upd_ne hDF]; exact cW2
    have cR5 : (L2.upd H2 Fm (.dK formK)) R = some (.lst []) := by rw [upd_ne (ne_of cR1 cF1 (by intro z; cases z))]; exact cR2
    generalize L2.upd H2 Fm (.dK formK) = H5 at sH2 cF5 cW5 cR5 ⊢
    clear p1 p2 cW2 cR2 hD hD1 cF1 cR1 s1 s01 cR s0 sJ cF htq
    have p5 := p.same sH2
    have hRd : ∀ {H' : Hp} {n' L' : Int} {o : HO}, Pen H' d l ms n' L' → H' R = some o → (∃ ys, o = .lst ys) → R ≠ d := fun pn e ⟨ys, eo⟩ => ne_of e pn.dc (by rw [eo]; intro z; cases z)
    have hFd : Fm ≠ d := ne_of cF5 p5.dc (by intro z; have := congrArg List.length (HO.dK.inj z); simp [pen, formK, formL] at this)
    have hFq : Fm ≠ q := ne_of cF5 (sH2 _ _ hq) (by intro z; have := congrArg List.length (HO.dK.inj z); simp [planK, formK, formL] at this)
    have hWd : D ≠ d := ne_of cW5 p5.dc (by intro z; cases z)
    have hWq : D ≠ q := ne_of cW5 (sH2 _ _ hq) (by intro z; cases z)
    have hRd : R ≠ d := ne_of cR5 p5.dc (by intro z; cases z)
    have hRq : R ≠ q := ne_of cR5 (sH2 _ _ hq) (by intro z; cases z)
    have hRF : R ≠ Fm := ne_of cR5 cF5 (by intro z; cases z)
    refine rd_dr (m := 7) rfl (fun _ h => h) p5 (by omega) (by decide) (by decide) fun r n6 L6 H6 r0 r1 x6 => ?_
    have h6 := x6.hi
    have g6 : Dg H H6 d l ms n n6 L6 q a a 1 := ⟨fun c o e h1 _ => x6.kp _ _ (sH2 _ _ e) h1, x6.pn, x6.kp _ _ (sH2 _ _ hq) hne, x6.lo, x6.hi, ha0, Int.le_refl _⟩
    have cF6 := x6.kp _ _ cF5 hFd
    have cW6 := x6.kp _ _ cW5 hWd
    have cR6 := x6.kp _ _ cR5 hRd
    clear x6 cF5 cW5 cR5
    refine ⟨_, rfl, by omega, by omega, ?_⟩
    refine for_range (lo := 0) (n := r.toNat) (fun i σ H' => ∃ (x6 x7 : Option V) (n' L' a' : Int) (ys : List V) (ts : List PyData) (c c0 : Nat), σ = [some (.ref d), some (.ref q), some (.int ((j + 1 : Nat) : Int)), some (.ref R), some (.ref Fm), some (.ref D), x6, x7, none] ∧
      Dg H H' d l ms n n' L' q a a' (60000 * c + 1) ∧ (c : Int) = a - a' ∧ H' R = some (.lst ys) ∧ H' Fm = some (.dK formK) ∧ H' D = some (.lst (wordsL j)) ∧ Paired (Rep H' (2 * j + 3)) ys ts ∧ ys.length ≤ i ∧ sumO (ts.map (deedB (cnt j))) = some c0 ∧ ts.length + c0 = c ∧ szL ts ≤ 600 * c)
      ⟨none, none, n6, L6, a, [], [], 0, 0, rfl, g6.wk (by omega), by omega, cR6, cF6, cW6, .nil, Nat.zero_le _, rfl, rfl, Nat.zero_le _⟩ (fun i σ H7 hi p' => ?_) (fun σ H7 p' => ?_)
    · obtain ⟨y6, y7, n7, L7, a7, ys, ts, c, c0, rfl, g7, ec, cR7, cF7, cW7, hp7, hl7, hs7, hc7, hz7⟩ := p'
      have h7 := g7.hi
      refine ⟨_, rfl, q, _, rfl, plan_get g7.pl, _, _, rfl, rfl, _, rfl, ite2 (fun ca => ?_) (fun ca => ?_)⟩
      · have ca := of_decide_eq_true ca
        refine ⟨_, rfl, q, _, rfl, plan_get g7.pl, _, _, rfl, rfl, _, rfl, q, _, rfl, plan_put g7.pl, ?_⟩
        have ne7 := pen_plan g7.pn g7.pl
        have g8 := Dg.take g7.pn g7.pl ne7 (ne_of g7.pn.ls g7.pl (by intro z; cases z)) ca
        have cR8 := g8.kp _ _ cR7 hRd hRq
        have cF8 := g8.kp _ _ cF7 hFd hFq
        have cW8 := g8.kp _ _ cW7 hWd hWq
        have hp8 : Paired (Rep (L2.upd H7 q (.dK (planK (a7 - 1)))) (2 * j + 3)) ys ts := Paired.mapP hp7 fun _ _ z => g8.rep g7.pn g7.pl ne7 z
        generalize L2.upd H7 q (.dK (planK (a7 - 1))) = H8 at g8 cR8 cF8 cW8 hp8 ⊢
        refine nxt_of (asg_n ⟨_, rfl, _, rfl, d, l, ms, n7, L7, .ref D, rfl, g8.pn, by omega, .inr ⟨D, wordsL j, rfl, cW8, (words_len j).1, Nat.le_trans (words_len j).2 (by decide), fun xw n9 L9 H9 hxw x9 => ?_⟩⟩)
        obtain ⟨pf, hpf, rfl, hSf⟩ := mem_words hxw
        obtain ⟨fz1, fz2, fz3⟩ := form_sz pf hpf
        have g9 : Dg H7 H9 d l ms n7 n9 L9 q a7 (a7 - 1) 1 := (g8.trans (Dg.of x9 g8.pn g8.pl ne7 g8.l0)).wk (by omega)
        have cR9 := x9.kp _ _ cR8 hRd
        have cF9 := x9.kp _ _ cF8 hFd
        have cW9 := x9.kp _ _ cW8 hWd
        have hp9 : Paired (Rep H9 (2 * j + 3)) ys ts := Paired.mapP hp8 fun _ _ z => x9.rep g8.pn z
        have h9 := g9.hi
        clear g8 cR8 cF8 cW8 hp8 x9
        have hys : ys.length < sizeLine := Nat.lt_of_le_of_lt (show ys.length ≤ 7 by omega) (by decide)
        refine ⟨_, rfl, .inl ⟨rfl, _, SqL.of cR9⟩, ?_⟩
        refine ⟨_, rfl, by show 1 ≤ sizeLine; decide, fun u hu => ?_⟩
        have s10 : Same H9 (L2.upd H9 u (.lst [.str pf.1])) := Same.new (Same.refl _) hu
        have g10 := g9.same s10
        have cR10 := s10 _ _ cR9
        have cF10 := s10 _ _ cF9
        have cW10 := s10 _ _ cW9
        have hp10 : Paired (Rep (L2.upd H9 u (.lst [.str pf.1])) (2 * j + 3)) ys ts := Paired.mapP hp9 fun _ _ z => z.same s10
        have cu10 : (L2.upd H9 u (.lst [.str pf.1])) u = some (.lst [.str pf.1]) := upd_same
        generalize L2.upd H9 u (.lst [.str pf.1]) = H10 at s10 g10 cR10 cF10 cW10 hp10 cu10 ⊢
        clear g9 cR9 cF9 cW9 hp9
        have hud : u ≠ d := ne_of cu10 g10.pn.dc (by intro z; cases z)
        have huq : u ≠ q := ne_of cu10 g10.pl (by intro z; cases z)
        refine ⟨_, rfl, _, rfl, Fm, _, rfl, form_get cF10 hpf, ksignS pf.2, rfl, fun D2 hD2 => ?_⟩
        have ek : (ksignS pf.2).cps.size = pf.2.length := by show (pf.2.map ksign).toArray.size = _; rw [List.size_toArray, List.length_map]
        refine lc_str (x := ksignS pf.2) (fun i H' => ∃ (n' L' a' : Int) (zs : List V) (us : List PyData) (e : Nat), Dg H10 H' d l ms n9 n' L' q (a7 - 1) a' (60000 * e + 13002 * i) ∧ (e : Int) = (a7 - 1) - a' ∧ zs.length = i ∧ H' D2 = some (.lst zs) ∧ Paired (Rep H' (2 * j + 2)) zs us ∧ sumO (List.zipWith (partB (cnt j)) (pf.2.take i) us) = some e ∧ szL us ≤ ((pf.2.take i).map szK).sum + 600 * e)
          ⟨n9, L9, a7 - 1, [], [], 0, ((Dg.refl g10.pn g10.pl g10.l0).same (Same.new (Same.refl _) hD2)).wk (by omega), by omega, rfl, upd_same, .nil, rfl, Nat.zero_le _⟩ (fun i sg H11 hsg p' => ?_) (fun H11 p' => ?_)
        · obtain ⟨n', L', a', zs, us, e, g11, ee, hl, cD, hpz, hsum, hsz⟩ := p'
          have h11 := g11.hi
          obtain ⟨kd, hkd, rfl⟩ : ∃ kd, pf.2[i]? = some kd ∧ ksign kd = sg := by
            have h : (pf.2.map ksign).toArray[i]? = some sg := hsg
            rw [List.getElem?_toArray, List.getElem?_map] at h
            exact Option.map_eq_some_iff.mp h
          have hi4 : i < pf.2.length := (List.getElem?_eq_some_iff.mp hkd).1
          have hD2d : D2 ≠ d := ne_of cD g11.pn.dc (by intro z; cases z)
          have hD2q : D2 ≠ q := ne_of cD g11.pl (by intro z; cases z)
          refine ⟨rfl, yes_of (iteT (call_of ⟨_, rfl, _, rfl, _, rfl, _, rfl, d, l, q, ms, n', L', a', kd, rfl, g11.pn, g11.pl, g11.l0, by omega, fun ej z => hSf ej (by rw [← z]; exact List.mem_of_getElem? hkd), fun v x n12 L12 a12 H12 c12 hr12 hb12 ec12 hz12 x12 => ?_⟩))⟩
          have cD12 := x12.kp _ _ cD hD2d hD2q
          have hlu : us.length = i := by have := Paired.length hpz; omega
          refine ⟨zs, cD12, Nat.lt_of_le_of_lt (show zs.length ≤ 4 by omega) (by decide), n12, L12, a12, zs ++ [v], us ++ [x], e + c12, ((g11.trans x12).upd g10.pn g10.pl hD2).wk (by omega), by omega, by rw [List.length_append, hl]; rfl, upd_same, ?_, ?_, ?_⟩
          · exact Paired.snoc (Paired.mapP hpz fun _ _ z => (x12.rep g11.pn g11.pl hne z).updL cD12) (hr12.updL cD12)
          · rw [take_snoc hkd, List.zipWith_append (by rw [List.length_take]; omega)]
            show sumO (_ ++ [partB (cnt j) kd x]) = _
            rw [hb12]
            exact sumO_s1 hsum
          · rw [take_snoc hkd, List.map_append, List.sum_append, szL_app]
            show szL us + (szD x + 0) ≤ _ + (szK kd + 0) + _
            omega
        · obtain ⟨n', L', a', zs, us, e, g11, ee, hl, cD, hpz, hsum, hsz⟩ := p'
          rw [ek] at hl hsum hsz g11
          rw [List.take_length] at hsum hsz
          have h11 := g11.hi
          have cu11 := g11.kp _ _ cu10 hud huq
          have hlu : us.length = pf.2.length := by have := Paired.length hpz; omega
          refine ⟨u, D2, _, zs, rfl, rfl, cu11, cD, by show 1 + zs.length ≤ sizeLine; exact Nat.le_trans (show 1 + zs.length ≤ 9 by omega) (by decide), fun pc hpc => ?_⟩
          refine .inl ⟨pc, _, rfl, SqL.of upd_same, fun tq htq => ?_⟩
          have s12 : Same H11 (L2.upd H11 pc (.lst ([V.str pf.1] ++ zs))) := Same.new (Same.refl _) hpc
          have s13 : Same (L2.upd H11 pc (.lst ([V.str pf.1] ++ zs))) (L2.upd (L2.upd H11 pc (.lst ([V.str pf.1] ++ zs))) tq (.tup ([V.str pf.1] ++ zs))) := Same.new (Same.refl _) htq
          have ct13 : (L2.upd (L2.upd H11 pc (.lst ([V.str pf.1] ++ zs))) tq (.tup ([V.str pf.1] ++ zs))) tq = some (.tup ([V.str pf.1] ++ zs)) := upd_same
          have s3 := s12.trans s13
          generalize L2.upd (L2.upd H11 pc (.lst ([V.str pf.1] ++ zs))) tq (.tup ([V.str pf.1] ++ zs)) = H13 at s3 ct13 s13 ⊢
          have cR13 := s3 _ _ (g11.kp _ _ cR10 hRd hRq)
          have cF13 := s3 _ _ (g11.kp _ _ cF10 hFd hFq)
          have cW13 := s3 _ _ (g11.kp _ _ cW10 hWd hWq)
          have hdb : deedB (cnt j) (.tuple (.str pf.1 :: us)) = some e := by
            rw [deedB, form_of pf hpf]
            show (if us.length = pf.2.length then _ else _) = _
            rw [if_pos hlu]
            exact hsum
          refine ⟨R, ys, _, rfl, rfl, cR13, hys, _, _, n', L', a', ys ++ [.ref tq], ts ++ [.tuple (.str pf.1 :: us)], c + 1 + e, c0 + e, rfl, ((((g7.trans (g10.trans g11)).same s3).upd p hq hR).wk (by omega)), by omega, upd_same, ?_, ?_, ?_, ?_, ?_, ?_, ?_⟩
          · rw [upd_ne (Ne.symm hRF)]; exact cF13
          · rw [upd_ne hDR]; exact cW13
          · exact Paired.snoc (Paired.mapP hp10 fun _ _ z => ((g11.rep g10.pn g10.pl hne z).same s3).updL cR13) ((rep_t (k := 2 * j + 2) ct13 (.cons (rep_s _) (Paired.mapP hpz fun _ _ z => z.same s3))).updL cR13)
          · rw [List.length_append]; show ys.length + 1 ≤ i + 1; omega
          · rw [List.map_append]
            show sumO (_ ++ [deedB (cnt j) (.tuple (.str pf.1 :: us))]) = _
            rw [hdb]
            exact sumO_s1 hs7
          · rw [List.length_append]; show ts.length + 1 + (c0 + e) = _; omega
          · rw [szL_app]
            show szL ts + (1 + (1 + pf.1.length + szL us) + 0) ≤ _
            omega
      · exact ⟨_, _, n7, L7, a7, ys, ts, c, c0, rfl, g7, ec, cR7, cF7, cW7, hp7, Nat.le_succ_of_le hl7, hs7, hc7, hz7⟩
    · obtain ⟨y6, y7, n7, L7, a7, ys, ts, c, c0, rfl, g7, ec, cR7, cF7, cW7, hp7, hl7, hs7, hc7, hz7⟩ := p'
      refine ⟨_, rfl, .inl ⟨R, ys, rfl, SqL.of cR7, fun tq htq => ?_⟩⟩
      have s8 : Same H7 (L2.upd H7 tq (.tup ys)) := Same.new (Same.refl _) htq
      refine kont (.ref tq) (.tuple ts) n7 L7 a7 _ c (rep_t (k := 2 * j + 3) upd_same (Paired.mapP hp7 fun _ _ z => z.same s8)) ?_ ec (by rw [szD]; omega) (g7.same s8)
      rw [cnt, hs7, ← hc7]; rfl
theorem ok_scripts {fP fS fF fK fD fV fW : Addr} {dP dS dF dK dD dV dW : FuncData} (FP : Fun K "_law_part" "_law_part" sPart fP dP) (mP : mg "_law_part" = some (.ref fP)) (bP : Binds K dP ["_law_held", "_law_kind", "_law_plan", "_law_within"] [])
    (FS : Fun K "_law_script" "_law_script" sScr fS dS) (mS : mg "_law_script" = some (.ref fS)) (bS : Binds K dS ["_law_held", "_law_plan", "_law_within"] [])
    (GF : FnOk P w K mg pB CX0 1 fF dF [] spForms) (mF : mg "_law_forms" = some (.ref fF)) (kF : PySem.W.keepIn K (.ref fF) = true) (bF : Binds K dF [] [])
    (GK : FnOk P w K mg pB CX0 2 fK dK ["_law_held", "_law_some"] spPick) (mK : mg "_law_pick" = some (.ref fK)) (kK : PySem.W.keepIn K (.ref fK) = true) (bK : Binds K dK ["_law_held", "_law_some"] [])
    (GD : FnOk P w K mg pB CX0 1 fD dD ["_law_held", "_law_many_here"] spDraw) (mD : mg "_law_draw" = some (.ref fD)) (kD : PySem.W.keepIn K (.ref fD) = true) (bD : Binds K dD ["_law_held", "_law_many_here"] [])
    (GV : FnOk P w K mg pB CX0 3 fV dV ["_law_held"] spWord) (mV : mg "_law_word" = some (.ref fV)) (kV : PySem.W.keepIn K (.ref fV) = true) (bV : Binds K dV ["_law_held"] [])
    (GW : FnOk P w K mg pB CX0 6 fW dW ["_law_held", "_law_within"] (spWor 2)) (mW : mg "_law_worth" = some (.ref fW)) (kW : PySem.W.keepIn K (.ref fW) = true) (bW' : Binds K dW ["_law_held", "_law_within"] [])
    (mInt : mg "int" = none) (mT : mg "tuple" = none) (mR : mg "range" = none) (mMax : mg "max" = none) : ∀ j, FnOk P w K mg pB CX0 (2 * j + 8) fS dS ["_law_held", "_law_plan", "_law_within"] (spScr j)
  | 0 => step_scr FS 0 (step_part FP 0 ok_bot mS FS.kp bS GD mD kD bD GV mV kV bV GW mW kW bW' mInt mT mR mMax) mP FP.kp bP GF mF kF bF GK mK kK bK GD mD kD bD mT mR
  | j + 1 => step_scr FS (j + 1) (step_part FP (j + 1) (ok_scripts FP mP bP FS mS bS GF mF kF bF GK mK kK bK GD mD kD bD GV mV kV bV GW mW kW bW' mInt mT mR mMax j) mS FS.kp bS GD mD kD bD GV mV kV bV GW mW kW bW' mInt mT mR mMax) mP FP.kp bP GF mF kF bF GK mK kK bK GD mD kD bD mT mR
end
end My


set_option Elab.async false
set_option linter.all false
set_option maxRecDepth 100000
set_option maxHeartbeats 4000000
namespace My
open PySem L2
section
variable {P : Program} {w : World} {K : PySem.W.Frag} {mg : Str → Option Value} {pB : Heap}
/-- the pairs of kinds and parts, as they are told -/
def PairsAt (H : Hp) (q : Addr) (m : Nat) (ks : List Kd) (ps : List PyData) : Prop := ∃ (ts : List Addr) (vs : List V), H q = some (.lst (ts.map V.ref)) ∧ ts.length = ks.length ∧ Paired (Rep H m) vs ps ∧
  ∀ (j : Nat) (t : Addr) (k : Kd) (v : V), ts[j]? = some t → ks[j]? = some k → vs[j]? = some v → H t = some (.tup [.str (kname k), v])
def spParts : Sp := fun vs H Q _ => ∃ (m : Nat) (v : V) (x : Str) (ps : List PyData) (ks : List Kd), vs = [v] ∧ Rep H (m + 1) v (.tuple (.str x :: ps)) ∧ formOf x = some ks ∧ ps.length = ks.length ∧
  ∀ (q : Addr) (H' : Hp), Same H H' → PairsAt H' q m ks ps → Q (.ref q) H'
abbrev sParts : Stmt := top 27
theorem scParts : FnScope ["deed"] ["deed"] (defScope sParts) := ⟨rfl, rfl, rfl, by decide +kernel, rfl, by decide +kernel, by decide +kernel⟩
theorem ok_parts {f dA : Addr} {fd : FuncData} {es : Array DictEntry} {n : Nat} (F : Fun K "parts_of" "parts_of" sParts f fd) (D : Deeds K w mg dA es n) (mL : mg "list" = none) (mZ : mg "zip" = none) : FnOk P w K mg pB CX0 1 f fd ["deed"] spParts := by
  refine F.ok scParts (fun vs H Q E h => ?_) (fun cdv A outer s H vs Q E hr h => ?_)
  · obtain ⟨m, v, x, ps, ks, rfl, _⟩ := h
    rfl
  · obtain ⟨m, v, x, ps, ks, rfl, hR, hf, hl, k⟩ := h
    have pD : ∀ {X : Cx} {p : Pos}, Gl X "DEEDS" → X.mg "DEEDS" = some (.ref dA) → PE X (.Name "DEEDS" p) (tC (.ref dA)) := fun hg hm => pe_glob hg hm (show RelV (.ref dA) _ from rfl)
    refine ⟨_, pss_one (ps_ret (pe_listZip rfl (by rfl) mL (by rfl) mZ (pa_cons (pe_ix ix_kdict (pD (by rfl) D.m) (pe_ix ix_tup (pv 0) pe_int (fun _ _ => rfl)) (fun _ _ => rfl)) (pa_cons (pe_slice sl_tupA (pv 0) (po_some pe_int) po_none) pa_nil)))), ?_⟩
    obtain ⟨a, xs, rfl, ha, hp⟩ := hR
    cases hp with
    | @cons y e ys ds hre hp =>
      have hlen := Paired.length hp
      cases rep_str hre
      obtain ⟨t, e1, e2, e3⟩ := D.get hf
      refine ⟨_, rfl, a, _, 0, _, rfl, rfl, SqT.of ha, atI_nat (xs := V.str x :: ys) (j := 0) (v := .str x) rfl, dA, x, .ref t, rfl, rfl, e2, _, rfl, _, rfl, np_of (rd_slT ha fun p2 H2 s2 c2 => ?_)⟩
      rw [cut_from _ (by decide) (by rw [List.length_cons]; omega)] at c2
      refine ⟨t, p2, _, _, rfl, e3 H2, SqT.of c2, fun q ts H3 s3 hq hlt hT => ?_⟩
      have hd : (V.str x :: ys).drop (1 : Int).toNat = ys := rfl
      rw [hd, List.length_map] at hlt
      refine k q H3 (s2.trans s3) ⟨ts, ys, hq, by omega, Paired.mapP hp fun _ _ z => (z.same s2).same s3, fun j t' kd v e4 e5 e6 => hT j t' _ v e4 (by rw [List.getElem?_map, e5]; rfl) (by rw [hd]; exact e6)⟩
end
end My

set_option Elab.async false
set_option linter.all false
set_option maxRecDepth 100000
set_option maxHeartbeats 100000000
namespace My
open PySem L2
section
variable {P : Program} {w : World} {K : PySem.W.Frag} {mg : Str → Option Value} {pB : Heap}
/-! ### texts of worths -/
theorem sum_sh {n : Nat} : ∀ {ds : List PyData}, (∀ d ∈ ds, isW n d = true) → ((ds.map (shW n)).map (·.length)).sum + ds.length ≤ 12 * szL ds
  | [], _ => by simp
  | d :: ds, h => by
    have h1 := shW_len (h d (List.mem_cons_self ..))
    have h2 := sum_sh fun z hz => h z (List.mem_cons_of_mem _ hz)
    rw [List.map_cons, List.map_cons, List.sum_cons, List.length_cons, szL]
    omega
theorem fit_sh {n : Nat} {ds : List PyData} (h : ∀ d ∈ ds, isW n d = true) (hz : szD (.tuple ds) ≤ 1000000) :
    ((((("<" : Str) :: ds.map (shW n)) ++ [(">" : Str)]).map (·.length)).sum + ((("<" : Str) :: ds.map (shW n)) ++ [(">" : Str)]).length * (Str.length " ") ≤ 16777216) := by
  have h1 := sum_sh h
  rw [szD] at hz
  have e1 : Str.length " " = 1 := by decide +kernel
  have e2 : Str.length "<" = 1 := by decide +kernel
  have e3 : Str.length ">" = 1 := by decide +kernel
  rw [e1, List.map_append, List.sum_append, List.map_cons, List.sum_cons, List.length_append, List.length_cons, List.length_map]
  simp only [List.map_cons, List.map_nil, List.sum_cons, List.sum_nil, e2, e3, List.length_cons, List.length_nil]
  omega
def spBr : Sp := fun vs H Q _ => ∃ (o c : Str) (l : Addr) (ts : List Str), vs = [.str o, .ref l, .str c] ∧ H l = some (.lst (ts.map V.str)) ∧ ts.length ≤ 1000 ∧
  (((o :: ts) ++ [c]).map (·.length)).sum + ((o :: ts) ++ [c]).length * (Str.length " ") ≤ 16777216 ∧ ∀ H', Same H H' → Q (.str (Txt.join " " ((o :: ts) ++ [c]))) H'
abbrev sBr : Stmt := top 41
theorem scBr : FnScope ["opening", "texts", "closing"] ["opening", "texts", "closing"] (defScope sBr) := ⟨rfl, rfl, rfl, by decide +kernel, rfl, by decide +kernel, by decide +kernel⟩
theorem ok_br {f : Addr} {fd : FuncData} (F : Fun K "bracketed" "bracketed" sBr f fd) : FnOk P w K mg pB CX0 1 f fd ["opening", "texts", "closing"] spBr := by
  refine F.ok scBr (fun vs H Q E h => ?_) (fun cdv A outer s H vs Q E hr h => ?_)
  · obtain ⟨o, c, l, ts, rfl, _⟩ := h
    rfl
  · obtain ⟨o, c, l, ts, rfl, hl, ht, hz, k⟩ := h
    refine ⟨_, pss_one (ps_ret (pe_join pe_str (pe_lst (pa_cons (pv 0) (StX.pa_star (pv 1) (pa_cons (pv 2) pa_nil)))))), ?_⟩
    refine ⟨⟨_, rfl⟩, _, rfl, _, rfl, l, _, rfl, .inr (SqL.of hl), _, rfl, ?_, fun q hq => ?_⟩
    · show ((ts.map V.str) ++ [V.str c]).length + 1 ≤ sizeLine
      rw [List.length_append, List.length_map]
      exact Nat.le_trans (show ts.length + 1 + 1 ≤ 1002 by omega) (by decide)
    · refine ⟨_, q, (o :: ts) ++ [c], rfl, rfl, .inl (SqL.of ?_), hz, k _ (Same.new (Same.refl _) hq)⟩
      rw [upd_same]
      simp
def spShow (n : Nat) : Sp := fun vs H Q _ => ∃ (m : Nat) (v : V) (d : PyData), vs = [v] ∧ Rep H m v d ∧ isW n d = true ∧ szD d ≤ 1000000 ∧ ∀ H', Same H H' → Q (.str (shW n d)) H'
def spPrevSh : Nat → Sp
  | 0 => spBot
  | n + 1 => spShow n
theorem log_small {i : Int} (h : -1000000000 ≤ i ∧ i ≤ 1000000000) : i.natAbs.log2 < 1920 := by
  by_cases h3 : i.natAbs = 0
  · rw [h3]; decide
  · refine (Nat.log2_lt h3).mpr (Nat.lt_of_lt_of_le (show i.natAbs < 2 ^ 40 by omega) (Nat.pow_le_pow_right (by decide) (by decide)))
/-! ### the signs of a worth -/
def sgW : Nat → PyData → List Str
  | n + 1, .tuple ds => ("<" : Str) :: ((ds.map (sgW n)).flatten ++ [(">" : Str)])
  | _, d => [leafT d]
theorem sgW_leaf {n : Nat} {d : PyData} (h : ∀ ds, d ≠ .tuple ds) : sgW n d = [leafT d] := by
  cases n <;> cases d <;> first | rfl | exact absurd rfl (h _)
theorem sgW_tl : ∀ (n : Nat) (d : PyData), (sgW n d).map TL.tl = tkL n d
  | 0, d => by cases d <;> rfl
  | n + 1, d => by
    cases d with
    | tuple ds =>
      rw [sgW, tkL, List.map_cons, List.map_append, List.map_flatten, List.map_map]
      rw [show (List.map TL.tl ∘ sgW n) = tkL n from funext (sgW_tl n)]
      rw [show TL.tl "<" = [60] by decide +kernel]
      show _ :: (_ ++ [TL.tl ">"]) = _
      rw [show TL.tl ">" = [62] by decide +kernel]
    | _ => rfl
theorem tl_inj {x y : Str} (h : TL.tl x = TL.tl y) : x = y := by
  cases x; cases y
  exact congrArg Str.mk (Array.toList_inj.mp h)
theorem tl_jn (l : List Str) : TL.tl (Txt.join " " l) = TL.joinL [32] (l.map TL.tl) := by
  rw [TL.join_eq, TL.tl_join, show TL.tl " " = [32] by decide +kernel]
theorem sgW_jn (n : Nat) (d : PyData) : Txt.join " " (sgW n d) = shW n d := tl_inj (by rw [tl_jn, sgW_tl, tl_shW])
theorem sgW_tot (l : List Str) : (l.map (·.length)).sum + l.length = sumL (l.map TL.tl) := by
  induction l with
  | nil => rfl
  | cons a r ih =>
    rw [List.map_cons, List.sum_cons, List.length_cons, List.map_cons, sumL, ← ih, ← TL.len_tl]
    omega
theorem sgW_len {n : Nat} {d : PyData} (h : isW n d = true) : ((sgW n d).map (·.length)).sum + (sgW n d).length ≤ 12 * szD d := by
  rw [sgW_tot, sgW_tl]
  exact (tk_sum n h).1
theorem sgs_len {n : Nat} : ∀ {ds : List PyData}, (∀ d ∈ ds, isW n d = true) → (ds.map (sgW n)).flatten.length ≤ 12 * szL ds
  | [], _ => by simp
  | d :: ds, h => by
    have h1 := sgW_len (h d (List.mem_cons_self ..))
    have h2 := sgs_len fun z hz => h z (List.mem_cons_of_mem _ hz)
    rw [List.map_cons, List.flatten_cons, List.length_append, szL]
    omega
theorem base_grow {H H' : Hp} {T T' : V → List PyData → Prop} {v : V} {d : PyData} (hl : ∀ a xs, H a = some (.lst xs) → ∃ xs', H' a = some (.lst xs')) (hd : ∀ a, H a = some (.dK []) → H' a = some (.dK [])) (ht : ∀ ds, T v ds → T' v ds)
    (h : base H T v d) : base H' T' v d := by
  cases d with
  | none => exact h
  | bool b => exact h
  | int i => exact h
  | str x => exact h
  | list ds =>
    obtain ⟨a, xs, e, q⟩ := h
    obtain ⟨xs', q'⟩ := hl a xs q
    exact ⟨a, xs', e, q'⟩
  | dict kvs =>
    obtain ⟨a, e, q⟩ := h
    exact ⟨a, e, hd a q⟩
  | tuple ds => exact ht ds h
/-- a list of ours grows, all else stands -/
theorem Rep.grown {H H' : Hp} {p : Addr} {ys zs : List V} (k : Kp p H H') (c : H p = some (.lst ys)) (c' : H' p = some (.lst zs)) : ∀ {n : Nat} {v : V} {x : PyData}, Rep H n v x → Rep H' n v x := by
  have kl : ∀ a xs, H a = some (.lst xs) → ∃ xs', H' a = some (.lst xs') := fun a xs e => by
    by_cases h : a = p
    · exact ⟨zs, by rw [h]; exact c'⟩
    · exact ⟨xs, k _ _ e h⟩
  have kd : ∀ a, H a = some (.dK []) → H' a = some (.dK []) := fun a e => k _ _ e (ne_of e c (by intro z; cases z))
  intro n
  induction n with
  | zero => exact fun h => base_grow kl kd (fun _ z => z) h
  | succ n ih => exact fun h => base_grow kl kd (fun ds ⟨a, xs, e, q, p'⟩ => ⟨a, xs, e, k _ _ q (ne_of q c (by intro z; cases z)), Paired.mapP p' fun _ _ z => ih z⟩) h
theorem upd_kp {H : Hp} {p : Addr} {o : HO} : Kp p H (upd H p o) := fun c u e nc => by rw [upd_ne nc]; exact e
theorem app_c {H : Hp} {p : Addr} {M : List Str} {x : Str} : (upd H p (.lst (M.map V.str ++ [.str x]))) p = some (.lst ((M ++ [x]).map V.str)) := by
  rw [upd_same, List.map_append]; rfl
theorem app_l {M : List Str} (h : M.length < 16000001) : (M.map V.str).length < sizeLine := by
  rw [List.length_map]
  exact Nat.lt_of_lt_of_le h (by decide)
theorem set_next {te : TE} {i : Nat} {b : TS} {D : Ends} {σ : L2.St} {H : Hp} (h : te σ H fun x H1 => b D (σ.set i (some x)) H1) : tSeq (tAsg te (gName i)) b D σ H := h
abbrev sShow : Stmt := top 40
theorem scShow : FnScope ["worth", "part"] ["worth"] (defScope sShow) := ⟨rfl, rfl, rfl, by decide +kernel, rfl, by decide +kernel, by decide +kernel⟩
theorem step_show {f fB : Addr} {fd dB : FuncData} (F : Fun K "show_worth" "show_worth" sShow f fd) (n : Nat) (G : FnOk P w K mg pB CX0 (n + 1) f fd ["worth"] (spPrevSh n)) (mG : mg "show_worth" = some (.ref f)) (bG : Binds K fd ["worth"] [])
    (GB : FnOk P w K mg pB CX0 1 fB dB ["opening", "texts", "closing"] spBr) (mB : mg "bracketed" = some (.ref fB)) (kB : PySem.W.keepIn K (.ref fB) = true) (bB : Binds K dB ["opening", "texts", "closing"] [])
    (mI : mg "isinstance" = none) (mT : mg "tuple" = none) : FnOk P w K mg pB CX0 (n + 2) f fd ["worth"] (spShow n) := by
  refine F.ok scShow (fun vs H Q E h => ?_) (fun cdv A outer s H vs Q E hr h => ?_)
  · obtain ⟨m, v, d, rfl, _⟩ := h
    rfl
  · obtain ⟨m, v, d, rfl, hR, hW, hz, k⟩ := h
    have nd := scShow.nd
    have hr1 : Room 1 _ := hr.mono (by omega)
    refine ⟨_, pss_cons (ps_if (pt_cmp (pc_isN (pv 0))) (pss_one (ps_ret pe_str)) pss_nil)
      (pss_one (ps_ret (pe_ifExp (pt_val (pe_callB call_isi (by rfl) mI (by decide +kernel) (pa_cons (pv 0) (pa_cons (pe_bltn (by rfl) mT (by decide +kernel) (show RelV (.ty "tuple") (.type "tuple") from rfl)) pa_nil))))
        (pe_call GB hr1 rfl mB kB bB .nil pass0 (pa_cons pe_str (pa_cons
          (pe_lc (own := [("part", 1)]) (g := gName 1) (tt := tYes) (te := tCall (spPrevSh n) [] E0 (tCons (tVar 1) tNil)) rfl nd (pi_tup (pv 0))
            (blkOk_by (N := ["worth", "part"]) (sc := defScope sShow) (by decide +kernel)) (fun _ _ _ _ _ => pg_name (i := 1) nd rfl (Or.inl rfl) (Or.inr rfl)) (fun _ _ _ _ _ => pts_nil)
            (fun _ _ _ _ _ => pe_call G hr rfl mG F.kp bG .nil pass0 (pa_cons (pv 1) pa_nil)))
          (pa_cons pe_str pa_nil))))
        (pe_joined1 (pe_fmt (pv 0)))))), ?_⟩
    refine ⟨_, rfl, _, rfl, ?_⟩
    rw [rep_nonn hR]
    rcases @notTup d with ⟨ds, rfl⟩ | hn
    · refine iteB0 rfl (rd_isi (.inr (.inr (.inr rfl))) rfl hR ⟨_, rfl, iteB1 rfl ?_⟩)
      obtain ⟨m', a, xs, rfl, rfl, ha, hp⟩ := rep_tup hR
      obtain ⟨n', rfl, h20, hall⟩ := isW_tup hW
      have hlen := Paired.length hp
      refine ⟨_, rfl, a, rfl, ⟨_, SqT.of ha⟩, fun D hD => ?_⟩
      refine lc_tup (K := K) (xs := xs) (fun i H' => Same H H' ∧ H' D = some (.lst (((ds.take i).map (shW n')).map V.str))) ⟨Same.new (Same.refl _) hD, upd_same⟩ (fun i H' _ p => SqT.of (p.1 _ _ ha)) (fun i x H' hx p => ?_) (fun H' p => ?_)
      · obtain ⟨p1, p2⟩ := p
        obtain ⟨e, he, hre⟩ := Paired.at hp hx
        have hsz : szD e ≤ 1000000 := by
          have h1 := szL_get he
          rw [szD] at hz
          omega
        refine ⟨rfl, yes_of (iteT ?_)⟩
        refine ⟨_, rfl, m', x, e, rfl, hre.same p1, hall e (List.mem_of_getElem? he), hsz, fun H2 s2 => ⟨_, s2 _ _ p2, ?_, ?_⟩⟩
        · rw [List.length_map, List.length_map]
          refine Nat.lt_of_le_of_lt (List.length_take_le' _ _) (Nat.lt_of_le_of_lt h20 (by decide))
        · refine ⟨fun b o ec => ?_, ?_⟩
          · rw [upd_ne (ne_of_none ec hD)]; exact s2 _ _ (p1 b o ec)
          · rw [upd_same, take_snoc he, List.map_append, List.map_append]; rfl
      · obtain ⟨p1, p2⟩ := p
        rw [hlen, List.take_length] at p2
        refine ⟨"<", ">", D, ds.map (shW n'), rfl, p2, by rw [List.length_map]; omega, fit_sh hall hz, fun H2 s2 => ?_⟩
        exact k H2 (p1.trans s2)
    · have hleaf : leafW d = true := by rw [← isW_leaf hn]; exact hW
      have esh : shW n d = leafT d := shW_leaf hn
      cases d with
      | tuple ds => exact absurd rfl (hn ds)
      | none =>
        refine iteB1 rfl ?_
        have := k H (Same.refl _)
        rw [esh] at this
        exact this
      | int i =>
        refine iteB0 rfl (rd_isi (.inr (.inr (.inr rfl))) rfl hR ⟨_, rfl, iteB0 rfl ?_⟩)
        cases rep_int hR
        refine ⟨_, rfl, .inr ⟨i, rfl, log_small (of_decide_eq_true hleaf), ?_⟩⟩
        have := k H (Same.refl _)
        rw [esh] at this
        exact this
      | str x =>
        refine iteB0 rfl (rd_isi (.inr (.inr (.inr rfl))) rfl hR ⟨_, rfl, iteB0 rfl ?_⟩)
        cases rep_str hR
        refine ⟨_, rfl, .inl ⟨x, rfl, ?_, ?_⟩⟩
        · rw [szD] at hz
          rw [sizeLine_eq]; omega
        · have := k H (Same.refl _)
          rw [esh] at this
          exact this
      | bool b => exact absurd (show false = true from hleaf) Bool.false_ne_true
      | list l => exact absurd (show false = true from hleaf) Bool.false_ne_true
      | dict l => exact absurd (show false = true from hleaf) Bool.false_ne_true
theorem ok_show {f fB : Addr} {fd dB : FuncData} (F : Fun K "show_worth" "show_worth" sShow f fd) (mG : mg "show_worth" = some (.ref f)) (bG : Binds K fd ["worth"] [])
    (GB : FnOk P w K mg pB CX0 1 fB dB ["opening", "texts", "closing"] spBr) (mB : mg "bracketed" = some (.ref fB)) (kB : PySem.W.keepIn K (.ref fB) = true) (bB : Binds K dB ["opening", "texts", "closing"] [])
    (mI : mg "isinstance" = none) (mT : mg "tuple" = none) : ∀ n, FnOk P w K mg pB CX0 (n + 2) f fd ["worth"] (spShow n)
  | 0 => step_show F 0 ok_bot mG bG GB mB kB bB mI mT
  | n + 1 => step_show F (n + 1) (ok_show F mG bG GB mB kB bB mI mT n) mG bG GB mB kB bB mI mT
/-! ### the law's own text -/
theorem call_str2 {X : Cx} : CallR X (.type "str") (fun xs H Q => (∃ a, xs = [.str a] ∧ Q (.str a) H) ∨ ∃ i, xs = [.int i] ∧ i.natAbs.log2 < 1920 ∧ Q (.str (toString i)) H) := by
  intro pins s σ H xs us Q I r h
  rcases h with h | h
  · exact SkE.call_str_str pins s σ H xs us Q I r h
  · exact call_str_int pins s σ H xs us Q I r h
abbrev sShown : Stmt := top 60
theorem scShown : FnScope ["_law_thing", "_law_one"] ["_law_thing"] (defScope sShown) := ⟨rfl, rfl, rfl, by decide +kernel, rfl, by decide +kernel, by decide +kernel⟩
theorem step_shown {f : Addr} {fd : FuncData} (F : Fun K "_law_shown" "_law_shown" sShown f fd) (n : Nat) (G : FnOk P w K mg pB CX0 (n + 1) f fd ["_law_thing"] (spPrevSh n)) (mG : mg "_law_shown" = some (.ref f)) (bG : Binds K fd ["_law_thing"] [])
    (mI : mg "isinstance" = none) (mT : mg "tuple" = none) (mS : mg "str" = none) : FnOk P w K mg pB CX0 (n + 2) f fd ["_law_thing"] (spShow n) := by
  refine F.ok scShown (fun vs H Q E h => ?_) (fun cdv A outer s H vs Q E hr h => ?_)
  · obtain ⟨m, v, d, rfl, _⟩ := h
    rfl
  · obtain ⟨m, v, d, rfl, hR, hW, hz, k⟩ := h
    have nd := scShown.nd
    refine ⟨_, pss_cons (ps_if (pt_val (pe_callB call_isi (by rfl) mI (by decide +kernel) (pa_cons (pv 0) (pa_cons (pe_bltn (by rfl) mT (by decide +kernel) (show RelV (.ty "tuple") (.type "tuple") from rfl)) pa_nil))))
        (pss_one (ps_ret (pe_join pe_str (pe_op op_cat (pe_op op_cat (pe_lst (pa_cons pe_str pa_nil))
          (pe_lc (own := [("_law_one", 1)]) (g := gName 1) (tt := tYes) (te := tCall (spPrevSh n) [] E0 (tCons (tVar 1) tNil)) rfl nd (pi_tup (pv 0))
            (blkOk_by (N := ["_law_thing", "_law_one"]) (sc := defScope sShown) (by decide +kernel)) (fun _ _ _ _ _ => pg_name (i := 1) nd rfl (Or.inl rfl) (Or.inr rfl)) (fun _ _ _ _ _ => pts_nil)
            (fun _ _ _ _ _ => pe_call G hr rfl mG F.kp bG .nil pass0 (pa_cons (pv 1) pa_nil)))) (pe_lst (pa_cons pe_str pa_nil)))))) pss_nil)
      (pss_one (ps_ret (pe_ifExp (pt_cmp (pc_isN (pv 0))) pe_str (pe_callTy call_str2 (by rfl) mS (by decide +kernel) (pa_cons (pv 0) pa_nil))))), ?_⟩
    refine rd_isi (.inr (.inr (.inr rfl))) rfl hR ⟨_, rfl, ?_⟩
    rcases @notTup d with ⟨ds, rfl⟩ | hn
    · refine iteB1 rfl ?_
      obtain ⟨m', a, xs, rfl, rfl, ha, hp⟩ := rep_tup hR
      obtain ⟨n', rfl, h20, hall⟩ := isW_tup hW
      have hlen := Paired.length hp
      refine ⟨⟨_, rfl⟩, by show 1 ≤ sizeLine; decide, fun o1 ho1 => ?_⟩
      have s0 : Same H (upd H o1 (.lst [.str "<"])) := Same.new (Same.refl _) ho1
      refine ⟨_, rfl, a, rfl, ⟨_, SqT.of (s0 _ _ ha)⟩, fun D hD => ?_⟩
      refine lc_tup (K := K) (xs := xs) (fun i H' => Same (upd H o1 (.lst [.str "<"])) H' ∧ H' D = some (.lst (((ds.take i).map (shW n')).map V.str))) ⟨Same.new (Same.refl _) hD, upd_same⟩ (fun i H' _ p => SqT.of (p.1 _ _ (s0 _ _ ha))) (fun i x H' hx p => ?_) (fun H' p => ?_)
      · obtain ⟨p1, p2⟩ := p
        obtain ⟨e, he, hre⟩ := Paired.at hp hx
        have hsz : szD e ≤ 1000000 := by
          have h1 := szL_get he
          rw [szD] at hz
          omega
        refine ⟨rfl, yes_of (iteT ?_)⟩
        refine ⟨_, rfl, m', x, e, rfl, hre.same (s0.trans p1), hall e (List.mem_of_getElem? he), hsz, fun H2 s2 => ⟨_, s2 _ _ p2, ?_, ?_⟩⟩
        · rw [List.length_map, List.length_map]
          refine Nat.lt_of_le_of_lt (List.length_take_le' _ _) (Nat.lt_of_le_of_lt h20 (by decide))
        · refine ⟨fun b o ec => ?_, ?_⟩
          · rw [upd_ne (ne_of_none ec hD)]; exact s2 _ _ (p1 b o ec)
          · rw [upd_same, take_snoc he, List.map_append, List.map_append]; rfl
      · obtain ⟨p1, p2⟩ := p
        rw [hlen, List.take_length] at p2
        refine ⟨o1, D, _, _, rfl, rfl, p1 _ _ upd_same, p2, ?_, fun q1 hq1 => ?_⟩
        · show 1 + ((ds.map (shW n')).map V.str).length ≤ sizeLine
          rw [List.length_map, List.length_map]
          exact Nat.le_trans (show 1 + ds.length ≤ 30 by omega) (by decide)
        · have s3 : Same H' (upd H' q1 (.lst ([.str "<"] ++ (ds.map (shW n')).map V.str))) := Same.new (Same.refl _) hq1
          refine ⟨by show 1 ≤ sizeLine; decide, fun o2 ho2 => ?_⟩
          have s4 : Same (upd H' q1 (.lst ([.str "<"] ++ (ds.map (shW n')).map V.str))) (upd (upd H' q1 (.lst ([.str "<"] ++ (ds.map (shW n')).map V.str))) o2 (.lst [.str ">"])) := Same.new (Same.refl _) ho2
          refine ⟨q1, o2, _, _, rfl, rfl, s4 _ _ upd_same, upd_same, ?_, fun q2 hq2 => ?_⟩
          · show ([V.str "<"] ++ (ds.map (shW n')).map V.str).length + 1 ≤ sizeLine
            rw [List.length_append, List.length_map, List.length_map]
            exact Nat.le_trans (show 1 + ds.length + 1 ≤ 30 by omega) (by decide)
          · refine ⟨_, q2, (("<" : Str) :: ds.map (shW n')) ++ [(">" : Str)], rfl, rfl, .inl (SqL.of ?_), fit_sh hall hz, k _ (Same.new ((s0.trans p1).trans (s3.trans s4)) hq2)⟩
            rw [upd_same]
            simp
    · have hleaf : leafW d = true := by rw [← isW_leaf hn]; exact hW
      have esh : shW n d = leafT d := shW_leaf hn
      refine iteB0 (by cases d <;> first | rfl | exact absurd rfl (hn _)) ?_
      refine ⟨_, rfl, _, rfl, ?_⟩
      rw [rep_nonn hR]
      have fin := k H (Same.refl _)
      rw [esh] at fin
      cases d with
      | tuple ds => exact absurd rfl (hn ds)
      | none => exact iteB1 rfl fin
      | int i =>
        cases rep_int hR
        exact iteB0 rfl ⟨_, rfl, .inr ⟨i, rfl, log_small (of_decide_eq_true hleaf), fin⟩⟩
      | str x =>
        cases rep_str hR
        exact iteB0 rfl ⟨_, rfl, .inl ⟨x, rfl, fin⟩⟩
      | bool b => exact absurd (show false = true from hleaf) Bool.false_ne_true
      | list l => exact absurd (show false = true from hleaf) Bool.false_ne_true
      | dict l => exact absurd (show false = true from hleaf) Bool.false_ne_true
theorem ok_shown {f : Addr} {fd : FuncData} (F : Fun K "_law_shown" "_law_shown" sShown f fd) (mG : mg "_law_shown" = some (.ref f)) (bG : Binds K fd ["_law_thing"] [])
    (mI : mg "isinstance" = none) (mT : mg "tuple" = none) (mS : mg "str" = none) : ∀ n, FnOk P w K mg pB CX0 (n + 2) f fd ["_law_thing"] (spShow n)
  | 0 => step_shown F 0 ok_bot mG bG mI mT mS
  | n + 1 => step_shown F (n + 1) (ok_shown F mG bG mI mT mS n) mG bG mI mT mS
end
end My

set_option Elab.async false
set_option linter.all false
set_option maxRecDepth 100000
set_option maxHeartbeats 4000000
namespace My
open PySem L2
/-! of k63's YD, YE: what speaks of no def -/
theorem szL_take (ds : List PyData) (i : Nat) : szL (ds.take i) ≤ szL ds := by
  have := szL_td ds i; omega
theorem btw_isW {lo hi : Int} {d : PyData} {n : Nat} (h : btw lo hi d = true) (h1 : -1000000000 ≤ lo) (h2 : hi ≤ 1000000000) : isW n d = true := by
  cases d with
  | int i =>
    rw [btw, Bool.and_eq_true] at h
    have a := of_decide_eq_true h.1
    have b := of_decide_eq_true h.2
    rw [isW_leaf (by intro ds z; cases z)]
    exact decide_eq_true ⟨by omega, by omega⟩
  | _ => cases h
theorem wd_isW {d : PyData} {n : Nat} (h : wdD d = true) : isW n d = true := by
  cases d with
  | str x => rw [isW_leaf (by intro ds z; cases z)]; exact h
  | _ => cases h
theorem part_isW {k : Kd} {d : PyData} (h : partOk k d = true) : isW 4 d = true := by
  cases k with
  | w => exact wd_isW h
  | k => exact btw_isW h (by decide) (by decide)
  | r => exact btw_isW h (by decide) (by decide)
  | e => exact btw_isW h (by decide) (by decide)
  | i =>
    have h : (isNon d || btw 0 1000 d) = true := h
    rcases Bool.or_eq_true _ _ ▸ h with h | h
    · cases d <;> first | rfl | cases h
    · exact btw_isW h (by decide) (by decide)
  | v => exact h
  | n =>
    cases d with
    | tuple ds =>
      have h : (decide (ds.length ≤ 8) && ds.all wdD) = true := h
      rw [Bool.and_eq_true, List.all_eq_true] at h
      have := of_decide_eq_true h.1
      rw [isW, Bool.and_eq_true, List.all_eq_true]
      exact ⟨decide_eq_true (by omega), fun x hx => wd_isW (h.2 x hx)⟩
    | _ => cases h
  | S => cases h
  | s => cases h
theorem sumO_some : ∀ {l : List (Option Nat)} {b : Nat}, sumO l = some b → ∃ cs : List Nat, l = cs.map some ∧ cs.sum = b
  | [], b, h => ⟨[], rfl, by cases h; rfl⟩
  | none :: l, b, h => by cases h
  | some a :: l, b, h => by
    obtain ⟨c, hc, rfl⟩ := Option.map_eq_some_iff.mp (show (sumO l).map (a + ·) = some b from h)
    obtain ⟨cs, e, hs⟩ := sumO_some hc
    exact ⟨a :: cs, by rw [e]; rfl, by rw [List.sum_cons, hs]⟩
theorem deedB_some {f : PyData → Option Nat} {d : PyData} {g : Nat} (h : deedB f d = some g) : ∃ x ps ks, d = .tuple (.str x :: ps) ∧ formOf x = some ks ∧ ps.length = ks.length ∧ sumO (List.zipWith (partB f) ks ps) = some g := by
  cases d with
  | tuple ds =>
    cases ds with
    | nil => cases h
    | cons e ps =>
      cases e with
      | str x =>
        have h : (match formOf x with | some ks => if ps.length = ks.length then sumO (List.zipWith (partB f) ks ps) else none | none => none) = some g := h
        cases hf : formOf x with
        | none => rw [hf] at h; cases h
        | some ks =>
          rw [hf] at h
          have h : (if ps.length = ks.length then sumO (List.zipWith (partB f) ks ps) else none) = some g := h
          by_cases hl : ps.length = ks.length
          · rw [if_pos hl] at h
            exact ⟨x, ps, ks, rfl, hf, hl, h⟩
          · rw [if_neg hl] at h; cases h
      | _ => cases h
  | _ => cases h
end My

set_option Elab.async false
set_option linter.all false
set_option maxRecDepth 100000
set_option maxHeartbeats 4000000
namespace My
open PySem L2
/-! ### the text of a script -/
def brk (o : Str) (ts : List Str) (c : Str) : Str := Txt.join " " ((o :: ts) ++ [c])
def shP (f : PyData → List Str) (k : Kd) (d : PyData) : Str := if isScr k = true ∧ isNon d = false then brk "[" (f d) "]" else shW 4 d
def shDd (f : PyData → List Str) : PyData → Str
  | .tuple (.str x :: ps) => match formOf x with
    | some ks => brk "(" (x :: List.zipWith (shP f) ks ps) ")"
    | none => ""
  | _ => ""
def shDs : Nat → PyData → List Str
  | 0, _ => []
  | n + 1, .tuple ds => ds.map (shDd (shDs n))
  | _ + 1, _ => []
theorem shDd_form {f : PyData → List Str} {x : Str} {ps : List PyData} {ks : List Kd} (h : formOf x = some ks) : shDd f (.tuple (.str x :: ps)) = brk "(" (x :: List.zipWith (shP f) ks ps) ")" := by
  show (match formOf x with | some ks => brk "(" (x :: List.zipWith (shP f) ks ps) ")" | none => "") = _
  rw [h]
/-! ### how long it is -/
def tot (l : List Str) : Nat := (l.map (·.length)).sum + l.length
theorem tot_cons (x : Str) (l : List Str) : tot (x :: l) = x.length + 1 + tot l := by
  unfold tot
  rw [List.map_cons, List.sum_cons, List.length_cons]; omega
theorem tot_nil : tot [] = 0 := rfl
theorem tot_app (a b : List Str) : tot (a ++ b) = tot a + tot b := by
  unfold tot
  rw [List.map_append, List.sum_append, List.length_append]; omega
theorem tot_sumL : ∀ l : List Str, sumL (l.map TL.tl) = tot l
  | [] => rfl
  | x :: l => by
    rw [List.map_cons, sumL, tot_sumL l, tot_cons, TL.len_tl]
theorem jn_len {l : List Str} (h : l ≠ []) : (Txt.join " " l).length + 1 = tot l := by
  rw [TL.len_tl, TL.join_eq, TL.tl_join, show TL.tl " " = [32] by decide +kernel, joinL_len (by simpa using h), tot_sumL]
theorem brk_len (o : Str) (ts : List Str) (c : Str) : (brk o ts c).length + 1 = o.length + 1 + tot ts + (c.length + 1) := by
  unfold brk
  rw [jn_len (by simp), tot_app, tot_cons, tot_cons, tot_nil]
theorem brk_fit {o : Str} {ts : List Str} {c : Str} (h1 : o.length = 1) (h2 : c.length = 1) (h : tot ts ≤ 16000000) : (((o :: ts) ++ [c]).map (·.length)).sum + ((o :: ts) ++ [c]).length * (Str.length " ") ≤ 16777216 := by
  have e := tot_app (o :: ts) [c]
  rw [tot_cons, tot_cons, tot_nil] at e
  rw [show Str.length " " = 1 by decide +kernel, Nat.mul_one]
  show tot ((o :: ts) ++ [c]) ≤ _
  omega
theorem shP_len {f : PyData → List Str} {g : PyData → Option Nat} (hf : ∀ d c, g d = some c → tot (f d) + 12 ≤ 12 * szD d) {k : Kd} {d : PyData} {c : Nat} (h : partB g k d = some c) : (shP f k d).length + 1 ≤ 12 * szD d := by
  unfold shP
  unfold partB at h
  by_cases hk : isScr k = true
  · rw [if_pos hk] at h
    cases hn : isNon d with
    | true =>
      rw [if_neg (fun z => by cases z.2)]
      have : d = .none := by cases d <;> first | rfl | cases hn
      subst this
      show (shW 4 .none).length + 1 ≤ 12 * szD .none
      decide +kernel
    | false =>
      rw [if_neg (fun z => by rw [hn] at z; cases z.2)] at h
      rw [if_pos ⟨hk, rfl⟩, brk_len]
      have := hf d c h
      have e1 : Str.length "[" = 1 := by decide +kernel
      have e2 : Str.length "]" = 1 := by decide +kernel
      omega
  · rw [if_neg hk] at h
    rw [if_neg (fun z => hk z.1)]
    by_cases ho : partOk k d = true
    · exact shW_len (part_isW ho)
    · rw [if_neg ho] at h; cases h
theorem zip_tot {f : PyData → List Str} {g : PyData → Option Nat} (hf : ∀ d c, g d = some c → tot (f d) + 12 ≤ 12 * szD d) : ∀ (ks : List Kd) (ps : List PyData) (c : Nat), sumO (List.zipWith (partB g) ks ps) = some c → tot (List.zipWith (shP f) ks ps) ≤ 12 * szL ps
  | [], _, _, _ => Nat.zero_le _
  | _ :: _, [], _, _ => Nat.zero_le _
  | k :: ks, p :: ps, c, h => by
    rw [List.zipWith_cons_cons] at h ⊢
    cases hb : partB g k p with
    | none => rw [hb] at h; cases h
    | some a =>
      rw [hb] at h
      obtain ⟨b, hb2, _⟩ := Option.map_eq_some_iff.mp (show (sumO (List.zipWith (partB g) ks ps)).map (a + ·) = some c from h)
      have h1 := shP_len hf hb
      have h2 := zip_tot hf ks ps b hb2
      rw [tot_cons, szL]; omega
theorem shDd_len {f : PyData → List Str} {g : PyData → Option Nat} (hf : ∀ d c, g d = some c → tot (f d) + 12 ≤ 12 * szD d) {d : PyData} {c : Nat} (h : deedB g d = some c) : (shDd f d).length + 1 ≤ 12 * szD d := by
  obtain ⟨x, ps, ks, rfl, hx, hl, hs⟩ := deedB_some h
  have h1 := zip_tot hf ks ps c hs
  rw [shDd_form hx, brk_len, tot_cons, szD, szL, szD]
  have e1 : Str.length "(" = 1 := by decide +kernel
  have e2 : Str.length ")" = 1 := by decide +kernel
  omega
theorem shDs_len : ∀ (n : Nat) (d : PyData) (c : Nat), cnt n d = some c → tot (shDs n d) + 12 ≤ 12 * szD d
  | 0, _, _, h => by cases h
  | n + 1, d, c, h => by
    cases d with
    | tuple ds =>
      rw [cnt] at h
      obtain ⟨b, hb, _⟩ := Option.map_eq_some_iff.mp h
      have key : ∀ (ds : List PyData) (b : Nat), sumO (ds.map (deedB (cnt n))) = some b → tot (ds.map (shDd (shDs n))) ≤ 12 * szL ds := by
        intro ds
        induction ds with
        | nil => exact fun _ _ => Nat.zero_le _
        | cons e ds ih =>
          intro b hb
          rw [List.map_cons] at hb
          cases he : deedB (cnt n) e with
          | none => rw [he] at hb; cases hb
          | some a =>
            rw [he] at hb
            obtain ⟨b', hb', _⟩ := Option.map_eq_some_iff.mp (show (sumO (ds.map (deedB (cnt n)))).map (a + ·) = some b from hb)
            have h1 := shDd_len (shDs_len n) he
            have h2 := ih b' hb'
            rw [List.map_cons, tot_cons, szL]; omega
      have := key ds b hb
      rw [shDs, szD]; omega
    | _ => cases h
end My

set_option Elab.async false
set_option linter.all false
set_option maxRecDepth 100000
set_option maxHeartbeats 4000000
namespace My
open PySem L2
section
variable {P : Program} {w : World} {K : PySem.W.Frag} {mg : Str → Option Value} {pB : Heap}
/-! ### the program's writers -/
theorem le_sum : ∀ {l : List Nat} {a : Nat}, a ∈ l → a ≤ l.sum
  | b :: l, a, h => by
    rw [List.sum_cons]
    rcases List.mem_cons.mp h with rfl | h
    · omega
    · have := le_sum h; omega
/-- the texts of a script's deeds, scripts within it n deep -/
def spSD (n : Nat) : Sp := fun vs H Q _ => ∃ (m : Nat) (v : V) (d : PyData) (c : Nat), vs = [v] ∧ Rep H m v d ∧ cnt (n + 1) d = some c ∧ c ≤ 1000 ∧ szD d ≤ 1000000 ∧
  ∀ (q : Addr) (H' : Hp), Same H H' → H q = none → H' q = some (.lst ((shDs (n + 1) d).map V.str)) → Q (.ref q) H'
def spPrevSD : Nat → Sp
  | 0 => spBot
  | n + 1 => spSD n
def spShP (n : Nat) : Sp := fun vs H Q _ => ∃ (m : Nat) (v : V) (d : PyData) (k : Kd) (c : Nat), vs = [.str (kname k), v] ∧ Rep H m v d ∧ partB (cnt n) k d = some c ∧ c ≤ 1000 ∧ szD d ≤ 1000000 ∧
  ∀ H', Same H H' → Q (.str (shP (shDs n) k d)) H'
def spShD (n : Nat) : Sp := fun vs H Q _ => ∃ (m : Nat) (v : V) (d : PyData) (c : Nat), vs = [v] ∧ Rep H m v d ∧ deedB (cnt n) d = some c ∧ c ≤ 1000 ∧ szD d ≤ 1000000 ∧
  ∀ H', Same H H' → Q (.str (shDd (shDs n) d)) H'
abbrev sShP : Stmt := top 39
theorem scShP : FnScope ["kind", "part"] ["kind", "part"] (defScope sShP) := ⟨rfl, rfl, rfl, by decide +kernel, rfl, by decide +kernel, by decide +kernel⟩
theorem ok_shp {f fB fS fW kA : Addr} {fd dB dS dW : FuncData} (F : Fun K "show_part" "show_part" sShP f fd) (n : Nat)
    (GS : FnOk P w K mg pB CX0 (3 * n + 8) fS dS ["script"] (spPrevSD n)) (mS : mg "shown_deeds" = some (.ref fS)) (kS : PySem.W.keepIn K (.ref fS) = true) (bS : Binds K dS ["script"] [])
    (GB : FnOk P w K mg pB CX0 1 fB dB ["opening", "texts", "closing"] spBr) (mB : mg "bracketed" = some (.ref fB)) (kB : PySem.W.keepIn K (.ref fB) = true) (bB' : Binds K dB ["opening", "texts", "closing"] [])
    (GW : FnOk P w K mg pB CX0 8 fW dW ["worth"] (spShow 4)) (mW : mg "show_worth" = some (.ref fW)) (kW : PySem.W.keepIn K (.ref fW) = true) (bW' : Binds K dW ["worth"] [])
    (mK : mg "SCRIPT_KINDS" = some (.ref kA)) (hK : ∀ H, SqT K H kA [.str "script", .str "perhaps"]) : FnOk P w K mg pB CX0 (3 * n + 9) f fd ["kind", "part"] (spShP n) := by
  refine F.ok scShP (fun vs H Q E h => ?_) (fun cdv A outer s H vs Q E hr h => ?_)
  · obtain ⟨m, v, d, k, c, rfl, _⟩ := h
    rfl
  · obtain ⟨m, v, d, kd, c, rfl, hR, hc, hc1, hz, k⟩ := h
    have nd := scShP.nd
    have hr1 : Room 1 _ := hr.mono (by omega)
    have hr8 : Room 8 _ := hr.mono (by omega)
    refine ⟨_, pss_cons (ps_if (PW.pt (pw_and (pt_cmpR op_in_seq (pv 0) (pe_glob (by rfl) mK (show RelV (.ref kA) _ from rfl)) (by rfl)) (pw_and1 (pt_cmp (pc_notN (pv 1))))))
        (pss_one (ps_ret (pe_call GB hr1 rfl mB kB bB' .nil pass0 (pa_cons pe_str (pa_cons (pe_call GS hr rfl mS kS bS .nil pass0 (pa_cons (pv 1) pa_nil)) (pa_cons pe_str pa_nil)))))) pss_nil)
      (pss_one (ps_ret (pe_call GW hr8 rfl mW kW bW' .nil pass0 (pa_cons (pv 1) pa_nil)))), ?_⟩
    have t2 : inV (.str (kname kd)) [.str "script", .str "perhaps"] = isScr kd := by cases kd <;> decide +kernel
    refine ⟨_, rfl, kA, _, rfl, .inr (hK H), rfl, rfl, _, rfl, ?_⟩
    have hpB := hc
    unfold partB at hpB
    rcases Bool.eq_false_or_eq_true (isScr kd) with hk | hk
    · rw [if_pos hk] at hpB
      refine iteB1 (t2.trans hk) ⟨_, rfl, _, rfl, ?_⟩
      rw [rep_nonn hR]
      rcases Bool.eq_false_or_eq_true (isNon d) with hno | hno
      · refine iteB0 (by rw [hno]; rfl) ?_
        have hd : d = .none := by cases d <;> first | rfl | cases hno
        subst hd
        refine ⟨_, rfl, m, v, .none, rfl, hR, rfl, hz, fun H1 s1 => ?_⟩
        have := k H1 s1
        unfold shP at this
        rw [if_neg (fun z => by cases z.2)] at this
        exact this
      · refine iteB1 (by rw [hno]; rfl) ?_
        rw [if_neg (fun z => by rw [hno] at z; cases z.2)] at hpB
        cases n with
        | zero => cases hpB
        | succ n =>
        refine ⟨_, rfl, m, v, d, c, rfl, hR, hpB, hc1, hz, fun q H1 s1 hq cq => ?_⟩
        have ht := shDs_len (n + 1) d c hpB
        have hl : (shDs (n + 1) d).length ≤ 1000 := by
          cases d with
          | tuple ds =>
            rw [cnt] at hpB
            obtain ⟨b, _, e⟩ := Option.map_eq_some_iff.mp hpB
            have e : ds.length + b = c := e
            rw [shDs, List.length_map]; omega
          | _ => cases hpB
        refine ⟨_, _, q, _, rfl, cq, hl, brk_fit (by decide +kernel) (by decide +kernel) (by omega), fun H2 s2 => ?_⟩
        have := k H2 (s1.trans s2)
        unfold shP at this
        rw [if_pos ⟨hk, hno⟩] at this
        exact this
    · rw [if_neg (by rw [hk]; decide)] at hpB
      have hok : partOk kd d = true := by
        by_cases ho : partOk kd d = true
        · exact ho
        · rw [if_neg ho] at hpB; cases hpB
      refine iteB0 (t2.trans hk) (iteF ⟨_, rfl, m, v, d, rfl, hR, part_isW hok, hz, fun H1 s1 => ?_⟩)
      have := k H1 s1
      unfold shP at this
      rw [if_neg (fun z => by rw [hk] at z; cases z.1)] at this
      exact this
abbrev sShD : Stmt := top 38
theorem scShD : FnScope ["deed", "parts", "kind", "part"] ["deed"] (defScope sShD) := ⟨rfl, rfl, rfl, by decide +kernel, rfl, by decide +kernel, by decide +kernel⟩
theorem ok_shd {f fB fP fS : Addr} {fd dB dP dS : FuncData} (F : Fun K "show_deed" "show_deed" sShD f fd) (n : Nat)
    (GS : FnOk P w K mg pB CX0 (3 * n + 9) fS dS ["kind", "part"] (spShP n)) (mS : mg "show_part" = some (.ref fS)) (kS : PySem.W.keepIn K (.ref fS) = true) (bS : Binds K dS ["kind", "part"] [])
    (GB : FnOk P w K mg pB CX0 1 fB dB ["opening", "texts", "closing"] spBr) (mB : mg "bracketed" = some (.ref fB)) (kB : PySem.W.keepIn K (.ref fB) = true) (bB' : Binds K dB ["opening", "texts", "closing"] [])
    (GP : FnOk P w K mg pB CX0 1 fP dP ["deed"] spParts) (mP : mg "parts_of" = some (.ref fP)) (kP : PySem.W.keepIn K (.ref fP) = true) (bP : Binds K dP ["deed"] []) : FnOk P w K mg pB CX0 (3 * n + 10) f fd ["deed"] (spShD n) := by
  refine F.ok scShD (fun vs H Q E h => ?_) (fun cdv A outer s H vs Q E hr h => ?_)
  · obtain ⟨m, v, d, c, rfl, _⟩ := h
    rfl
  · obtain ⟨m, v, d, c, rfl, hR, hc, hc1, hz, k⟩ := h
    have nd := scShD.nd
    have hr1 : Room 1 _ := hr.mono (by omega)
    refine ⟨_, pss_cons (ps_setLc (i := 1) (own := [("kind", 2), ("part", 3)]) (g := gTup K 2 (gCons (gName 2) (gCons (gName 3) gNil))) (tt := tYes) (te := tCall (spShP n) [] E0 (tCons (tVar 2) (tCons (tVar 3) tNil))) rfl nd rfl rfl (sw_true rfl rfl rfl (by decide +kernel))
        (pi_list (pe_call GP hr1 rfl mP kP bP .nil pass0 (pa_cons (pv 0) pa_nil)))
        (blkOk_by (N := ["deed", "parts", "kind", "part"]) (sc := defScope sShD) (by decide +kernel))
        (fun _ _ _ _ _ => pg_tup (by rfl) (pgs_cons (pg_name (i := 2) nd rfl (Or.inl rfl) (Or.inr rfl)) (pgs_cons (pg_name (i := 3) nd rfl (Or.inl rfl) (Or.inr rfl)) pgs_nil)))
        (fun _ _ _ _ _ => pts_nil) (fun _ _ _ _ _ => pe_call GS hr rfl mS kS bS .nil pass0 (pa_cons (pv 2) (pa_cons (pv 3) pa_nil))))
      (pss_one (ps_ret (pe_call GB hr1 rfl mB kB bB' .nil pass0 (pa_cons pe_str (pa_cons (pe_lst (pa_cons (pe_ix ix_tup (pv 0) pe_int (fun _ _ => rfl)) (StX.pa_star (pv 1) pa_nil))) (pa_cons pe_str pa_nil)))))), ?_⟩
    obtain ⟨x, ps, ks, rfl, hf, hl, hsm⟩ := deedB_some hc
    obtain ⟨bs, ebs, hbs⟩ := sumO_some hsm
    obtain ⟨m', a, xs, rfl, rfl, ha, hp⟩ := rep_tup hR
    have hzp : szL ps ≤ 1000000 := by rw [szD, szL] at hz; omega
    refine asg_n (call_of ⟨_, rfl, m', .ref a, x, ps, ks, rfl, hR, hf, hl, fun q H2 s2 hq => ?_⟩)
    obtain ⟨ts, us, hql, hlt, hpu, hT⟩ := hq
    have hlu := Paired.length hpu
    have hk9 := form_len hf
    refine ⟨q, rfl, ⟨_, SqL.of hql⟩, fun D hD => ?_⟩
    refine lc_list (xs := ts.map V.ref) (fun j H3 => Same H2 H3 ∧ H3 D = some (.lst (((List.zipWith (shP (shDs n)) ks ps).take j).map V.str))) ⟨Same.new (Same.refl _) hD, upd_same⟩ (fun i H3 _ p => SqL.of (p.1 _ _ hql)) ?_ ?_
    · rintro j y H3 hy ⟨s3, c3⟩
      rw [List.getElem?_map] at hy
      obtain ⟨t, ht, rfl⟩ := Option.map_eq_some_iff.mp hy
      have hj : j < ts.length := (List.getElem?_eq_some_iff.mp ht).1
      have hkd : ks[j]? = some ks[j] := List.getElem?_eq_getElem (by omega)
      have hu : us[j]? = some us[j] := List.getElem?_eq_getElem (by omega)
      generalize ks[j] = kd at hkd
      generalize us[j] = u at hu
      obtain ⟨e, he, hre⟩ := Paired.at hpu hu
      have hH := s3 _ _ (hT j t kd u ht hkd hu)
      have hsz : szD e ≤ 1000000 := Nat.le_trans (szL_get he) hzp
      have hbl : bs.length = ks.length := by have := congrArg List.length ebs; rw [List.length_map, List.length_zipWith] at this; omega
      have hbi : bs[j]? = some bs[j] := List.getElem?_eq_getElem (by omega)
      generalize bs[j] = gi at hbi
      have hpB : partB (cnt n) kd e = some gi := by
        have hL : (List.zipWith (partB (cnt n)) ks ps)[j]? = some (partB (cnt n) kd e) := by rw [List.getElem?_zipWith, hkd, he]
        rw [ebs, List.getElem?_map, hbi] at hL
        exact (Option.some.inj hL).symm
      have hgi : gi ≤ 1000 := by
        have : gi ≤ bs.sum := le_sum (List.mem_of_getElem? hbi)
        omega
      have hZ : (List.zipWith (shP (shDs n)) ks ps)[j]? = some (shP (shDs n) kd e) := by rw [List.getElem?_zipWith, hkd, he]
      refine ⟨t, _, rfl, SqT.of hH, rfl, _, _, rfl, _, _, rfl, rfl, rfl, yes_of (iteT (call_of ⟨_, rfl, _, rfl, m', u, e, kd, gi, rfl, hre.same s3, hpB, hgi, hsz, fun H4 s4 => ⟨_, s4 _ _ c3, ?_, fun b o eb => ?_, ?_⟩⟩))⟩
      · rw [List.length_map, List.length_take]
        exact Nat.lt_of_le_of_lt (show min j _ ≤ 9 by omega) (by decide)
      · rw [upd_ne (ne_of_none eb hD)]; exact s4 _ _ (s3 _ _ eb)
      · rw [upd_same, take_snoc hZ, List.map_append]; rfl
    · rintro H3 ⟨s3, c3⟩
      rw [List.take_of_length_le (by rw [List.length_zipWith, List.length_map]; omega)] at c3
      cases hp with
      | @cons z0 e0 zs es hx0 hpz =>
      cases rep_str hx0
      have ha3 := s3 _ _ (s2 _ _ ha)
      have hat : atI (V.str x :: zs) 0 = some (.str x) := atI_nat (xs := V.str x :: zs) (j := 0) (v := .str x) rfl
      have hzl : (List.zipWith (shP (shDs n)) ks ps).length ≤ 9 := by rw [List.length_zipWith]; omega
      refine call_of ⟨_, rfl, a, _, 0, _, rfl, rfl, SqT.of ha3, hat, _, rfl, D, _, rfl, .inr (SqL.of c3), ?_, fun r hr => ?_⟩
      · rw [List.append_nil, List.length_cons, List.length_map]
        exact Nat.le_trans (show _ ≤ 10 by omega) (by decide)
      · have s4 : Same H3 (upd H3 r (.lst (V.str x :: (List.map V.str (List.zipWith (shP (shDs n)) ks ps) ++ [])))) := Same.new (Same.refl _) hr
        have ht := zip_tot (shDs_len n) ks ps c hsm
        have hz' : 12 * (1 + (1 + x.length + szL ps)) ≤ 12000000 := by rw [szD, szL, szD] at hz; omega
        refine ⟨"(", ")", r, x :: List.zipWith (shP (shDs n)) ks ps, rfl, by rw [upd_same, List.append_nil]; rfl, by rw [List.length_cons]; omega, brk_fit (by decide +kernel) (by decide +kernel) (by rw [tot_cons]; omega), fun H5 s5 => ?_⟩
        have := k H5 (s2.trans (s3.trans (s4.trans s5)))
        rw [shDd_form hf] at this
        exact this
abbrev sSD : Stmt := top 37
theorem scSD : FnScope ["script", "deed"] ["script"] (defScope sSD) := ⟨rfl, rfl, rfl, by decide +kernel, rfl, by decide +kernel, by decide +kernel⟩
theorem ok_sd {f fS : Addr} {fd dS : FuncData} (F : Fun K "shown_deeds" "shown_deeds" sSD f fd) (n : Nat)
    (GS : FnOk P w K mg pB CX0 (3 * n + 10) fS dS ["deed"] (spShD n)) (mS : mg "show_deed" = some (.ref fS)) (kS : PySem.W.keepIn K (.ref fS) = true) (bS : Binds K dS ["deed"] []) : FnOk P w K mg pB CX0 (3 * n + 11) f fd ["script"] (spSD n) := by
  refine F.ok scSD (fun vs H Q E h => ?_) (fun cdv A outer s H vs Q E hr h => ?_)
  · obtain ⟨m, v, d, c, rfl, _⟩ := h
    rfl
  · obtain ⟨m, v, d, c, rfl, hR, hc, hc1, hz, k⟩ := h
    have nd := scSD.nd
    refine ⟨_, pss_one (ps_ret (pe_lc (own := [("deed", 1)]) (g := gName 1) (tt := tYes) (te := tCall (spShD n) [] E0 (tCons (tVar 1) tNil)) rfl nd (pi_tup (pv 0))
      (blkOk_by (N := ["script", "deed"]) (sc := defScope sSD) (by decide +kernel)) (fun _ _ _ _ _ => pg_name (i := 1) nd rfl (Or.inl rfl) (Or.inr rfl)) (fun _ _ _ _ _ => pts_nil)
      (fun _ _ _ _ _ => pe_call GS hr rfl mS kS bS .nil pass0 (pa_cons (pv 1) pa_nil)))), ?_⟩
    obtain ⟨ds, rfl⟩ : ∃ ds, d = .tuple ds := by cases d <;> first | exact ⟨_, rfl⟩ | cases hc
    obtain ⟨m', a, xs, rfl, rfl, ha, hp⟩ := rep_tup hR
    have hlen := Paired.length hp
    have hzs : szL ds ≤ 1000000 := by rw [szD] at hz; omega
    rw [cnt] at hc
    obtain ⟨b, hb, rfl⟩ := Option.map_eq_some_iff.mp hc
    obtain ⟨cs, ecs, hcs⟩ := sumO_some hb
    have hlc : cs.length = ds.length := by have := congrArg List.length ecs; rw [List.length_map, List.length_map] at this; omega
    refine ⟨_, rfl, a, rfl, ⟨_, SqT.of ha⟩, fun D hD => ?_⟩
    refine lc_tup (K := K) (xs := xs) (fun j H3 => Same H H3 ∧ H3 D = some (.lst (((ds.map (shDd (shDs n))).take j).map V.str))) ⟨Same.new (Same.refl _) hD, upd_same⟩ (fun i H3 _ p => SqT.of (p.1 _ _ ha)) ?_ ?_
    · rintro j y H3 hy ⟨s3, c3⟩
      obtain ⟨e, he, hre⟩ := Paired.at hp hy
      have hj : j < ds.length := (List.getElem?_eq_some_iff.mp he).1
      have hcj : cs[j]? = some cs[j] := List.getElem?_eq_getElem (by omega)
      generalize cs[j] = g at hcj
      have hde : deedB (cnt n) e = some g := by
        have := congrArg (fun l : List (Option Nat) => l[j]?) ecs
        simp only [List.getElem?_map, he, hcj, Option.map_some] at this
        exact Option.some.inj this
      have hg : g ≤ 1000 := by
        have : g ≤ cs.sum := le_sum (List.mem_of_getElem? hcj)
        omega
      have hsz : szD e ≤ 1000000 := Nat.le_trans (szL_get he) hzs
      have hZ : (ds.map (shDd (shDs n)))[j]? = some (shDd (shDs n) e) := by rw [List.getElem?_map, he]; rfl
      refine ⟨rfl, yes_of (iteT (call_of ⟨_, rfl, m', y, e, g, rfl, hre.same s3, hde, hg, hsz, fun H4 s4 => ⟨_, s4 _ _ c3, ?_, fun b o eb => ?_, ?_⟩⟩))⟩
      · rw [List.length_map, List.length_take]
        exact Nat.lt_of_le_of_lt (show min j _ ≤ 1000 by rw [List.length_map]; omega) (by decide)
      · rw [upd_ne (ne_of_none eb hD)]; exact s4 _ _ (s3 _ _ eb)
      · rw [upd_same, take_snoc hZ, List.map_append]; rfl
    · rintro H3 ⟨s3, c3⟩
      rw [List.take_of_length_le (by rw [List.length_map]; omega)] at c3
      exact k D H3 s3 hD (by rw [shDs]; exact c3)
/-- the three that call one another -/
theorem ok_sds {fS fD fP fB fW fQ kA : Addr} {dS dD dP dB dW dQ : FuncData} (FS : Fun K "shown_deeds" "shown_deeds" sSD fS dS) (mS : mg "shown_deeds" = some (.ref fS)) (bS : Binds K dS ["script"] [])
    (FD : Fun K "show_deed" "show_deed" sShD fD dD) (mD : mg "show_deed" = some (.ref fD)) (bD : Binds K dD ["deed"] [])
    (FP : Fun K "show_part" "show_part" sShP fP dP) (mP : mg "show_part" = some (.ref fP)) (bP : Binds K dP ["kind", "part"] [])
    (GB : FnOk P w K mg pB CX0 1 fB dB ["opening", "texts", "closing"] spBr) (mB : mg "bracketed" = some (.ref fB)) (kB : PySem.W.keepIn K (.ref fB) = true) (bB' : Binds K dB ["opening", "texts", "closing"] [])
    (GW : FnOk P w K mg pB CX0 8 fW dW ["worth"] (spShow 4)) (mW : mg "show_worth" = some (.ref fW)) (kW : PySem.W.keepIn K (.ref fW) = true) (bW' : Binds K dW ["worth"] [])
    (GQ : FnOk P w K mg pB CX0 1 fQ dQ ["deed"] spParts) (mQ : mg "parts_of" = some (.ref fQ)) (kQ : PySem.W.keepIn K (.ref fQ) = true) (bQ : Binds K dQ ["deed"] [])
    (mK : mg "SCRIPT_KINDS" = some (.ref kA)) (hK : ∀ H, SqT K H kA [.str "script", .str "perhaps"]) : ∀ n, FnOk P w K mg pB CX0 (3 * n + 11) fS dS ["script"] (spSD n)
  | 0 => ok_sd FS 0 (ok_shd FD 0 (ok_shp FP 0 ok_bot mS FS.kp bS GB mB kB bB' GW mW kW bW' mK hK) mP FP.kp bP GB mB kB bB' GQ mQ kQ bQ) mD FD.kp bD
  | n + 1 => ok_sd FS (n + 1) (ok_shd FD (n + 1) (ok_shp FP (n + 1) (ok_sds FS mS bS FD mD bD FP mP bP GB mB kB bB' GW mW kW bW' GQ mQ kQ bQ mK hK n) mS FS.kp bS GB mB kB bB' GW mW kW bW' mK hK) mP FP.kp bP GB mB kB bB' GQ mQ kQ bQ) mD FD.kp bD
/-! ### show_script -/
def shS (n : Nat) (d : PyData) : Str := Txt.join " " (shDs n d)
def spShS (n : Nat) : Sp := fun vs H Q _ => ∃ (m : Nat) (v : V) (d : PyData) (c : Nat), vs = [v] ∧ Rep H m v d ∧ cnt (n + 1) d = some c ∧ c ≤ 1000 ∧ szD d ≤ 1000000 ∧ ∀ H', Same H H' → Q (.str (shS (n + 1) d)) H'
abbrev sShS : Stmt := top 36
theorem scShS : FnScope ["script"] ["script"] (defScope sShS) := ⟨rfl, rfl, rfl, by decide +kernel, rfl, by decide +kernel, by decide +kernel⟩
theorem ok_shs {f fS : Addr} {fd dS : FuncData} (F : Fun K "show_script" "show_script" sShS f fd) (n : Nat)
    (GS : FnOk P w K mg pB CX0 (3 * n + 11) fS dS ["script"] (spSD n)) (mS : mg "shown_deeds" = some (.ref fS)) (kS : PySem.W.keepIn K (.ref fS) = true) (bS : Binds K dS ["script"] []) : FnOk P w K mg pB CX0 (3 * n + 12) f fd ["script"] (spShS n) := by
  refine F.ok scShS (fun vs H Q E h => ?_) (fun cdv A outer s H vs Q E hr h => ?_)
  · obtain ⟨m, v, d, c, rfl, _⟩ := h
    rfl
  · obtain ⟨m, v, d, c, rfl, hR, hc, hc1, hz, k⟩ := h
    refine ⟨_, pss_one (ps_ret (pe_join pe_str (pe_call GS hr rfl mS kS bS .nil pass0 (pa_cons (pv 0) pa_nil)))), ?_⟩
    have ht := shDs_len (n + 1) d c hc
    refine ⟨⟨_, rfl⟩, call_of ⟨_, rfl, m, v, d, c, rfl, hR, hc, hc1, hz, fun q H1 s1 hq cq => ?_⟩⟩
    refine ⟨_, q, shDs (n + 1) d, rfl, rfl, .inl (SqL.of cq), ?_, k _ s1⟩
    rw [show Str.length " " = 1 by decide +kernel, Nat.mul_one]
    show tot (shDs (n + 1) d) ≤ _
    omega
end
end My

set_option Elab.async false
set_option linter.all false
set_option maxRecDepth 100000
set_option maxHeartbeats 4000000
namespace My
open PySem L2
/-! ### scripts as data that are compared and shown -/
theorem names_ok : ∀ p ∈ formL, (PyData.str p.1).canLay0 = true := by decide +kernel
theorem name_ok {x : Str} {ks : List Kd} (h : formOf x = some ks) : (PyData.str x).canLay0 = true := by
  obtain ⟨p, hp, e⟩ := Option.map_eq_some_iff.mp (show (formL.find? fun p => decide (p.1 = x)).map (·.2) = some ks from h)
  have h1 := List.find?_some hp
  have h2 : p.1 = x := of_decide_eq_true h1
  rw [← h2]
  exact names_ok p (List.mem_of_find?_eq_some hp)
structure Fine (b : Nat) (d : PyData) : Prop where
  lay : d.canLay0 = true
  dep : d.depth ≤ b
  dp : ∀ (K : PySem.W.Frag) (H : Hp) (m : Nat) (v : V), Rep H m v d → Dp K H v d
theorem fine_tup {b : Nat} {ds : List PyData} (h : ∀ d ∈ ds, Fine b d) : Fine (b + 1) (.tuple ds) := by
  refine ⟨?_, ?_, fun K H m v hR => ?_⟩
  · rw [PyData.canLay0]
    induction ds with
    | nil => rfl
    | cons d ds ih => rw [PyData.canLayAll0, (h d (List.mem_cons_self ..)).lay, ih fun e he => h e (List.mem_cons_of_mem _ he)]; rfl
  · rw [PyData.depth]
    have : PyData.depthAll ds ≤ b := by
      induction ds with
      | nil => exact Nat.zero_le _
      | cons d ds ih =>
        rw [PyData.depthAll]
        exact Nat.max_le.mpr ⟨(h d (List.mem_cons_self ..)).dep, ih fun e he => h e (List.mem_cons_of_mem _ he)⟩
    omega
  · obtain ⟨m', a, xs, rfl, rfl, ha, hp⟩ := rep_tup hR
    refine .tup (SqT.of ha) ?_
    clear ha hR
    induction hp with
    | nil => exact .nil
    | cons r t ih => exact .cons ((h _ (List.mem_cons_self ..)).dp K H _ _ r) (ih fun e he => h e (List.mem_cons_of_mem _ he))
theorem fine_w {n : Nat} {d : PyData} (h : isW n d = true) : Fine n d := ⟨(lay_w n h).1, (lay_w n h).2, fun K H m v r => dp_w n h r⟩
theorem Fine.mono {a b : Nat} {d : PyData} (h : Fine a d) (hb : a ≤ b) : Fine b d := ⟨h.lay, Nat.le_trans h.dep hb, h.dp⟩
theorem fine_str {x : Str} (h : (PyData.str x).canLay0 = true) : Fine 0 (.str x) := ⟨h, Nat.le_refl _, fun K H m v r => by cases rep_str r; exact .str x⟩
theorem fine_part {n b : Nat} (hb : 4 ≤ b) (hs : ∀ d c, cnt n d = some c → Fine b d) {k : Kd} {d : PyData} {c : Nat} (h : partB (cnt n) k d = some c) : Fine b d := by
  unfold partB at h
  by_cases hk : isScr k = true
  · rw [if_pos hk] at h
    by_cases hn : k = .s ∧ isNon d = true
    · have : d = .none := by
        have := hn.2
        cases d <;> first | rfl | cases this
      subst this
      exact (fine_w (n := 4) rfl).mono hb
    · rw [if_neg hn] at h
      exact hs d c h
  · rw [if_neg hk] at h
    by_cases ho : partOk k d = true
    · exact (fine_w (part_isW ho)).mono hb
    · rw [if_neg ho] at h; cases h
theorem fine_parts {n b : Nat} (hb : 4 ≤ b) (hs : ∀ d c, cnt n d = some c → Fine b d) : ∀ (ks : List Kd) (ps : List PyData) (c : Nat), ps.length = ks.length → sumO (List.zipWith (partB (cnt n)) ks ps) = some c → ∀ p ∈ ps, Fine b p
  | [], [], _, _, _, p, hp => nomatch hp
  | [], _ :: _, _, hl, _, _, _ => by simp at hl
  | _ :: _, [], _, hl, _, _, _ => by simp at hl
  | k :: ks, q :: ps, c, hl, h, p, hp => by
    rw [List.zipWith_cons_cons] at h
    cases hq : partB (cnt n) k q with
    | none => rw [hq] at h; cases h
    | some a =>
      rw [hq] at h
      obtain ⟨b', hb', _⟩ := Option.map_eq_some_iff.mp (show (sumO (List.zipWith (partB (cnt n)) ks ps)).map (a + ·) = some c from h)
      rcases List.mem_cons.mp hp with rfl | hp
      · exact fine_part hb hs hq
      · exact fine_parts hb hs ks ps b' (by simpa using hl) hb' p hp
theorem fine_s : ∀ (n : Nat) (d : PyData) (c : Nat), cnt n d = some c → Fine (2 * n + 4) d
  | 0, _, _, h => by cases h
  | n + 1, d, c, h => by
    cases d with
    | tuple ds =>
      rw [cnt] at h
      obtain ⟨b, hb, _⟩ := Option.map_eq_some_iff.mp h
      obtain ⟨cs, ecs, _⟩ := sumO_some hb
      have key : ∀ e ∈ ds, Fine (2 * n + 5) e := fun e he => by
        have hm : deedB (cnt n) e ∈ ds.map (deedB (cnt n)) := List.mem_map_of_mem he
        rw [ecs] at hm
        obtain ⟨g, _, hg⟩ := List.mem_map.mp hm
        obtain ⟨x, ps, ks, rfl, hf, hl, hs⟩ := deedB_some hg.symm
        refine fine_tup (b := 2 * n + 4) fun p hp => ?_
        rcases List.mem_cons.mp hp with rfl | hp
        · exact (fine_str (name_ok hf)).mono (Nat.zero_le _)
        · exact fine_parts (by omega) (fine_s n) ks ps g hl hs p hp
      exact (fine_tup key).mono (by omega)
    | _ => cases h
theorem Fine.shaped {b : Nat} {d : PyData} (h : Fine b d) (hb : b ≤ 64) : SeqAt.shaped d = true := by
  unfold SeqAt.shaped
  rw [h.lay, decide_eq_true (Nat.le_trans h.dep hb)]; rfl
/-! ### texts that are put together once more -/
theorem jn_flat {ls : List (List Str)} (h : ∀ l ∈ ls, l ≠ []) : Txt.join " " (ls.map (Txt.join " ")) = Txt.join " " ls.flatten := by
  refine tl_inj ?_
  rw [tl_jn, tl_jn, List.map_map, List.map_flatten]
  have e : List.map (TL.tl ∘ Txt.join " ") ls = (ls.map (List.map TL.tl)).map (TL.joinL [32]) := by
    rw [List.map_map]
    exact List.map_congr_left fun l _ => tl_jn l
  rw [e]
  exact joinL_flat [32] fun ps hps => by
    obtain ⟨l, hl, rfl⟩ := List.mem_map.mp hps
    have := h l hl
    simpa using this
theorem jn_one (x : Str) : Txt.join " " [x] = x := tl_inj (by rw [tl_jn]; rfl)
def isEmp : PyData → Bool
  | .tuple [] => true
  | _ => false
/-- the law's pieces of a part, of a deed -/
def lpP (n : Nat) (k : Kd) (d : PyData) : List Str := if isScr k = true ∧ isNon d = false then [("[" : Str)] ++ (if isEmp d = true then [] else [shS n d]) ++ [("]" : Str)] else [shW 4 d]
theorem lpP_ne (n : Nat) (k : Kd) (d : PyData) : lpP n k d ≠ [] := by
  unfold lpP
  by_cases h : isScr k = true ∧ isNon d = false
  · rw [if_pos h]; simp
  · rw [if_neg h]; simp
theorem lpP_jn {n c : Nat} {k : Kd} {d : PyData} (h : partB (cnt n) k d = some c) : Txt.join " " (lpP n k d) = shP (shDs n) k d := by
  unfold lpP shP
  by_cases hk : isScr k = true ∧ isNon d = false
  · rw [if_pos hk, if_pos hk]
    unfold partB at h
    rw [if_pos hk.1, if_neg (fun z => by rw [hk.2] at z; cases z.2)] at h
    unfold brk
    cases n with
    | zero => cases h
    | succ n =>
      cases d with
      | tuple ds =>
        cases ds with
        | nil => rfl
        | cons e ds =>
          have := jn_flat (ls := [[("[" : Str)], shDs (n + 1) (.tuple (e :: ds)), [("]" : Str)]]) (by
            intro l hl
            rcases List.mem_cons.mp hl with rfl | hl
            · simp
            rcases List.mem_cons.mp hl with rfl | hl
            · simp [shDs]
            · rw [List.mem_singleton.mp hl]; simp)
          rw [List.map_cons, List.map_cons, List.map_cons, List.map_nil, jn_one, jn_one] at this
          rw [show isEmp (.tuple (e :: ds)) = false from rfl, if_neg (by decide)]
          show Txt.join " " [("[" : Str), shS (n + 1) (.tuple (e :: ds)), ("]" : Str)] = _
          unfold shS
          rw [this]
          simp
      | _ => cases h
  · rw [if_neg hk, if_neg hk, jn_one]
def dpL (n : Nat) : PyData → List Str
  | .tuple (.str x :: ps) => match formOf x with
    | some ks => [("(" : Str), x] ++ (List.zipWith (lpP n) ks ps).flatten ++ [(")" : Str)]
    | none => [("" : Str)]
  | _ => [("" : Str)]
theorem dpL_form {n : Nat} {x : Str} {ps : List PyData} {ks : List Kd} (h : formOf x = some ks) : dpL n (.tuple (.str x :: ps)) = [("(" : Str), x] ++ (List.zipWith (lpP n) ks ps).flatten ++ [(")" : Str)] := by
  show (match formOf x with | some ks => [("(" : Str), x] ++ (List.zipWith (lpP n) ks ps).flatten ++ [(")" : Str)] | none => [("" : Str)]) = _
  rw [h]
theorem zip_jn {n : Nat} : ∀ (ks : List Kd) (ps : List PyData) (c : Nat), sumO (List.zipWith (partB (cnt n)) ks ps) = some c → (List.zipWith (lpP n) ks ps).map (Txt.join " ") = List.zipWith (shP (shDs n)) ks ps
  | [], _, _, _ => rfl
  | _ :: _, [], _, _ => rfl
  | k :: ks, p :: ps, c, h => by
    rw [List.zipWith_cons_cons] at h
    cases hb : partB (cnt n) k p with
    | none => rw [hb] at h; cases h
    | some a =>
      rw [hb] at h
      obtain ⟨b, hb2, _⟩ := Option.map_eq_some_iff.mp (show (sumO (List.zipWith (partB (cnt n)) ks ps)).map (a + ·) = some c from h)
      rw [List.zipWith_cons_cons, List.zipWith_cons_cons, List.map_cons, zip_jn ks ps b hb2, lpP_jn hb]
theorem zip_ne {n : Nat} : ∀ (ks : List Kd) (ps : List PyData), ∀ l ∈ List.zipWith (lpP n) ks ps, l ≠ []
  | [], _, l, h => nomatch h
  | _ :: _, [], l, h => nomatch h
  | k :: ks, p :: ps, l, h => by
    rw [List.zipWith_cons_cons] at h
    rcases List.mem_cons.mp h with rfl | h
    · exact lpP_ne n k p
    · exact zip_ne ks ps l h
theorem dpL_jn {n c : Nat} {d : PyData} (h : deedB (cnt n) d = some c) : Txt.join " " (dpL n d) = shDd (shDs n) d ∧ dpL n d ≠ [] := by
  obtain ⟨x, ps, ks, rfl, hf, hl, hs⟩ := deedB_some h
  rw [dpL_form hf, shDd_form hf]
  refine ⟨?_, by simp⟩
  unfold brk
  have := jn_flat (ls := [[("(" : Str)], [x]] ++ List.zipWith (lpP n) ks ps ++ [[(")" : Str)]]) (by
    intro l hl
    rcases List.mem_append.mp hl with hl | hl
    · rcases List.mem_append.mp hl with hl | hl
      · rcases List.mem_cons.mp hl with rfl | hl
        · simp
        · rw [List.mem_singleton.mp hl]; simp
      · exact zip_ne ks ps l hl
    · rw [List.mem_singleton.mp hl]; simp)
  rw [List.map_append, List.map_append, zip_jn ks ps c hs, List.map_cons, List.map_cons, List.map_nil, List.map_cons, List.map_nil, jn_one, jn_one, jn_one, List.flatten_append, List.flatten_append] at this
  have e : ([[("(" : Str)], [x]] : List (List Str)).flatten = [("(" : Str), x] := rfl
  have e2 : ([[(")" : Str)]] : List (List Str)).flatten = [(")" : Str)] := rfl
  rw [e, e2] at this
  rw [← this]
  rfl
theorem law_jn {n c : Nat} {ds : List PyData} (h : cnt (n + 1) (.tuple ds) = some c) : Txt.join " " (ds.map (dpL n)).flatten = shS (n + 1) (.tuple ds) := by
  rw [cnt] at h
  obtain ⟨b, hb, _⟩ := Option.map_eq_some_iff.mp h
  obtain ⟨cs, ecs, _⟩ := sumO_some hb
  have key : ∀ e ∈ ds, ∃ g, deedB (cnt n) e = some g := fun e he => by
    have hm : deedB (cnt n) e ∈ ds.map (deedB (cnt n)) := List.mem_map_of_mem he
    rw [ecs] at hm
    obtain ⟨g, _, hg⟩ := List.mem_map.mp hm
    exact ⟨g, hg.symm⟩
  have h1 := jn_flat (ls := ds.map (dpL n)) (by
    intro l hl
    obtain ⟨e, he, rfl⟩ := List.mem_map.mp hl
    obtain ⟨g, hg⟩ := key e he
    exact (dpL_jn hg).2)
  rw [← h1, List.map_map]
  unfold shS
  rw [shDs]
  exact congrArg _ (List.map_congr_left fun e he => by
    obtain ⟨g, hg⟩ := key e he
    exact (dpL_jn hg).1)
end My

set_option Elab.async false
set_option linter.all false
set_option maxRecDepth 100000
set_option maxHeartbeats 4000000
namespace My
open PySem L2
theorem fresh_of {H H' : Hp} {p : Addr} (s : Same H H') (h : H' p = none) : H p = none := by
  cases e : H p with
  | none => rfl
  | some o => rw [s _ _ e] at h; cases h
theorem lpP_le (n : Nat) (k : Kd) (d : PyData) : (lpP n k d).length ≤ 3 := by
  unfold lpP
  by_cases h : isScr k = true ∧ isNon d = false
  · rw [if_pos h]
    by_cases h2 : isEmp d = true
    · rw [if_pos h2]; decide
    · rw [if_neg h2]; exact Nat.le_refl 3
  · rw [if_neg h]; exact Nat.le_succ_of_le (Nat.le_succ_of_le (Nat.le_refl 1))
theorem emp_eqv : ∀ ds : List PyData, PyData.eqv (.tuple ds) (.tuple []) = ds.isEmpty
  | [] => by decide +kernel
  | d :: ds => by simp [PyData.eqv, PyData.eqvAll]
theorem SeqAt_sh {n : Nat} {d : PyData} {c : Nat} (h : cnt n d = some c) (hn : n ≤ 30 := by omega) : SeqAt.shaped d = true := (fine_s n d c h).shaped (by omega)
section
variable {P : Program} {w : World} {K : PySem.W.Frag} {mg : Str → Option Value} {pB : Heap}
/-! ### the law's own text of a script -/
def spPrevLT : Nat → Sp
  | 0 => spBot
  | n + 1 => spShS n
abbrev sLT : Stmt := top 61
abbrev nLT : List Str := ["_law_todo", "_law_found", "_law_forms_here", "_law_deed", "_law_kind", "_law_part_here"]
theorem scLT : FnScope nLT ["_law_todo"] (defScope sLT) := ⟨rfl, rfl, rfl, by decide +kernel, rfl, by decide +kernel, by decide +kernel⟩
theorem step_lt {f fF fW : Addr} {fd dF dW : FuncData} (F : Fun K "_law_text" "_law_text" sLT f fd) (n : Nat) (G : FnOk P w K mg pB CX0 (n + 6) f fd ["_law_todo"] (spPrevLT n)) (mG : mg "_law_text" = some (.ref f)) (bG : Binds K fd ["_law_todo"] [])
    (GF : FnOk P w K mg pB CX0 1 fF dF [] spForms) (mF : mg "_law_forms" = some (.ref fF)) (kF : PySem.W.keepIn K (.ref fF) = true) (bF : Binds K dF [] [])
    (GW : FnOk P w K mg pB CX0 6 fW dW ["_law_thing"] (spShow 4)) (mW : mg "_law_shown" = some (.ref fW)) (kW : PySem.W.keepIn K (.ref fW) = true) (bW' : Binds K dW ["_law_thing"] [])
    (mZ : mg "zip" = none) (mInt : mg "int" = none) (hn30 : n ≤ 29) : FnOk P w K mg pB CX0 (n + 7) f fd ["_law_todo"] (spShS n) := by
  refine F.ok scLT (fun vs H Q E h => ?_) (fun cdv A outer s H vs Q E hr h => ?_)
  · obtain ⟨m, v, d, c, rfl, _⟩ := h
    rfl
  · obtain ⟨m, v, d, c, rfl, hR, hc, hc1, hz, k⟩ := h
    have nd := scLT.nd
    have hr1 : Room 1 _ := hr.mono (by omega)
    have hr6 : Room 6 _ := hr.mono (by omega)
    have hu := hu_of hr
    refine ⟨_, pss_cons (ps_par (by rfl) nd (i := 1) (j := 2) rfl rfl (by decide) rfl rfl (pa_cons (pe_lst pa_nil) (pa_cons (pe_call0 GF hr1 rfl mF kF bF .nil pass0) pa_nil)) (by rfl))
      (pss_cons (ps_for PassesOwn.never rfl (pi_tup (pv 0)) (pg_name (i := 3) nd rfl (Or.inl rfl))
        (pss_cons (ps_set (i := 1) nd rfl (Or.inl rfl) (pe_op op_cat (pv 1) (pe_lst (pa_cons pe_str (pa_cons (pe_ix ix_tup (pv 3) pe_int (fun _ _ => rfl)) pa_nil)))))
        (pss_cons (ps_for PassesOwn.never rfl (pi_zipS (by rfl) mZ (pa_cons (pe_dget hu (pv 2) (pe_ix ix_tup (pv 3) pe_int (fun _ _ => rfl)) (fun _ _ => rfl)) (pa_cons (pe_slice sl_tupA (pv 3) (po_some pe_int) po_none) pa_nil)))
          (pg_tup (by rfl) (pgs_cons (pg_name (i := 4) nd rfl (Or.inl rfl)) (pgs_cons (pg_name (i := 5) nd rfl (Or.inl rfl)) pgs_nil)))
          (pss_one (ps_if (PW.pt (pw_and (pt_cmpR op_in_sign (pv 4) pe_str rfl) (pw_and1 (pt_cmp (pc_notN (pv 5))))))
            (pss_one (ps_set (i := 1) nd rfl (Or.inl rfl) (pe_op op_cat (pe_op op_cat (pe_op op_cat (pv 1) (pe_lst (pa_cons pe_str pa_nil)))
              (pe_op op_rep (pe_lst (pa_cons (pe_call G hr rfl mG F.kp bG .nil pass0 (pa_cons (pv 5) pa_nil)) pa_nil)) (pe_callTy call_int1 (by rfl) mInt (by decide +kernel) (pa_cons (pe_cmpR (op_neD hr.units) (pv 5) (pe_tup pa_nil) (nomark _)) pa_nil)))) (pe_lst (pa_cons pe_str pa_nil)))))
            (pss_one (ps_expr (pe_bm PySem.F.plainAttrs_list PySem.F.slot_list_append PySem.F.type_list_append mt_append (pv 1) (pa_cons (pe_call GW hr6 rfl mW kW bW' .nil pass0 (pa_cons (pv 5) pa_nil)) pa_nil)))))))
        (pss_one (ps_expr (pe_bm PySem.F.plainAttrs_list PySem.F.slot_list_append PySem.F.type_list_append mt_append (pv 1) (pa_cons pe_str pa_nil))))))
      )
      (pss_one (ps_ret (pe_join pe_str (pv 1))))), ?_⟩
    obtain ⟨ds, rfl⟩ : ∃ ds, d = .tuple ds := by cases d <;> first | exact ⟨_, rfl⟩ | cases hc
    obtain ⟨m', a, xs, rfl, rfl, ha, hp⟩ := rep_tup hR
    have hlen := Paired.length hp
    have hzs : szL ds ≤ 1000000 := by rw [szD] at hz; omega
    have hcc := hc
    rw [cnt] at hc
    obtain ⟨b, hb, ec⟩ := Option.map_eq_some_iff.mp hc
    have ec : ds.length + b = c := ec
    obtain ⟨cs, ecs, hcs⟩ := sumO_some hb
    have hlc : cs.length = ds.length := by have := congrArg List.length ecs; rw [List.length_map, List.length_map] at this; omega
    refine par_of ⟨Nat.zero_le _, fun R hR0 => ⟨rfl, fun Fm J1 sJ cF1 => ⟨_, _, rfl, ?_⟩⟩⟩
    have cR1 : J1 R = some (.lst []) := sJ _ _ upd_same
    have s01 : Same H J1 := (Same.new (Same.refl _) hR0).trans sJ
    refine ⟨_, rfl, a, rfl, ⟨_, SqT.of (s01 _ _ ha)⟩, for_tup (xs := xs) (fun j σ H3 => ∃ (p : Addr) (x3 x4 x5 : Option V), σ = [some (.ref a), some (.ref p), some (.ref Fm), x3, x4, x5] ∧ Same H H3 ∧ H3 Fm = some (.dK formK) ∧ H p = none ∧ H3 p = some (.lst (((ds.take j).map (dpL n)).flatten.map V.str)) ∧ (((ds.take j).map (dpL n)).flatten).length ≤ 30 * j) ⟨R, none, none, none, rfl, s01, cF1, hR0, cR1, Nat.le_refl _⟩ ?_ ?_ ?_⟩
    · rintro j σ H3 _ ⟨p, x3, x4, x5, rfl, s3, _⟩
      exact SqT.of (s3 _ _ ha)
    · rintro j y σ H3 hy ⟨p, x3, x4, x5, rfl, s3, cF3, hpn, c3, w1⟩
      obtain ⟨e, he, hre⟩ := Paired.at hp hy
      have hj : j < ds.length := (List.getElem?_eq_some_iff.mp he).1
      have hcj : cs[j]? = some cs[j] := List.getElem?_eq_getElem (by omega)
      generalize cs[j] = g at hcj
      have hde : deedB (cnt n) e = some g := by
        have := congrArg (fun l : List (Option Nat) => l[j]?) ecs
        simp only [List.getElem?_map, he, hcj, Option.map_some] at this
        exact Option.some.inj this
      have hg : g ≤ 1000 := by
        have : g ≤ cs.sum := le_sum (List.mem_of_getElem? hcj)
        omega
      obtain ⟨x, ps, ks, rfl, hf, hl, hsm⟩ := deedB_some hde
      obtain ⟨bs, ebs, hbs⟩ := sumO_some hsm
      have hsz := Nat.le_trans (szL_get he) hzs
      have hzp : szL ps ≤ 1000000 := by rw [szD, szL] at hsz; omega
      have hk9 := form_len hf
      obtain ⟨m2, t, zs', rfl, rfl, ht, hpz'⟩ := rep_tup hre
      cases hpz' with
      | @cons z0 e0 zs es hx0 hpz =>
      cases rep_str hx0
      have hlz := Paired.length hpz
      have hkl : (ksignS ks).cps.size = ks.length := by
        show (ks.map ksign).toArray.size = _
        rw [List.size_toArray, List.length_map]
      have hat : atI (V.str x :: zs) 0 = some (.str x) := atI_nat (xs := V.str x :: zs) (j := 0) (v := .str x) rfl
      generalize hW : ((ds.take j).map (dpL n)).flatten = W at c3 w1
      -- found = found + ["(", deed[0]]
      refine asg_n ⟨_, rfl, _, rfl, t, _, 0, _, rfl, rfl, SqT.of (s3 _ _ ht), hat, by show 2 ≤ sizeLine; decide, fun l1 hl1 => ?_⟩
      have sa : Same H3 (upd H3 l1 (.lst [.str "(", .str x])) := Same.new (Same.refl _) hl1
      have cl1 : (upd H3 l1 (.lst [.str "(", .str x])) l1 = some (.lst [.str "(", .str x]) := upd_same
      generalize upd H3 l1 (.lst [.str "(", .str x]) = Ha at sa cl1 ⊢
      refine ⟨p, l1, _, _, rfl, rfl, sa _ _ c3, cl1, by rw [List.length_map]; exact Nat.le_trans (show W.length + 2 ≤ 40000 by omega) (by decide), fun p1 hp1 => ?_⟩
      have sb : Same Ha (upd Ha p1 (.lst (W.map V.str ++ [.str "(", .str x]))) := Same.new (Same.refl _) hp1
      have cp1 : (upd Ha p1 (.lst (W.map V.str ++ [.str "(", .str x]))) p1 = some (.lst ((W ++ [("(" : Str), x]).map V.str)) := by rw [upd_same, List.map_append]; rfl
      generalize upd Ha p1 (.lst (W.map V.str ++ [.str "(", .str x])) = H4 at sb cp1 ⊢
      have s34 := sa.trans sb
      have s4 := s3.trans s34
      have hp1n : H p1 = none := fresh_of (s3.trans sa) hp1
      have cF4 := s34 _ _ cF3
      have ht4 := s4 _ _ ht
      have hgk : DGet H4 Fm (.str x) (some (.str (ksignS ks))) := by
        have h := DGet.k (k := (Sum.inr x : Key)) cF4
        rw [val_form, hf] at h
        exact h
      refine ⟨_, rfl, _, rfl, t, _, 0, _, rfl, rfl, SqT.of ht4, hat, Fm, _, rfl, hgk, _, rfl, _, rfl, np_of (rd_slT ht4 fun p2 H5 s5 c5 => ?_)⟩
      rw [cut_from _ (by decide) (by rw [List.length_cons]; omega)] at c5
      have c5 : H5 p2 = some (.tup zs) := c5
      have hcz : (ksignS ks).cps.size = zs.length := by omega
      refine ⟨ksignS ks, p2, zs, rfl, SqT.of c5, for_zipS hcz (fun i σ H6 => ∃ (p : Addr) (x4 x5 : Option V), σ = [some (.ref a), some (.ref p), some (.ref Fm), some (.ref t), x4, x5] ∧ Same H H6 ∧ H6 Fm = some (.dK formK) ∧ H6 p2 = some (.tup zs) ∧ H p = none ∧ H6 p = some (.lst ((W ++ [("(" : Str), x] ++ (List.zipWith (lpP n) (ks.take i) (ps.take i)).flatten).map V.str)) ∧ ((List.zipWith (lpP n) (ks.take i) (ps.take i)).flatten).length ≤ 3 * i) ?_ ?_ ?_ ?_⟩
      · exact ⟨p1, x4, x5, rfl, s4.trans s5, s5 _ _ cF4, c5, hp1n, by rw [List.take_zero, List.zipWith_nil_left, List.flatten_nil, List.append_nil]; exact s5 _ _ cp1, Nat.le_refl _⟩
      · rintro i σ H6 ⟨p, x4, x5, rfl, s6, cF6, c6p, _⟩
        exact SqT.of c6p
      · rintro i cc u T σ H6 hci hui ⟨p, x4, x5, rfl, s6, cF6, c6p, hpn, c6, w2⟩ hTn
        have hki : ∃ kd, ks[i]? = some kd ∧ cc = ksign kd := by
          have e1 : (ks.map ksign)[i]? = some cc := by rw [← hci]; simp [ksignS]
          rw [List.getElem?_map] at e1
          obtain ⟨kd, q1, q2⟩ := Option.map_eq_some_iff.mp e1
          exact ⟨kd, q1, q2.symm⟩
        obtain ⟨kd, hkd, rfl⟩ := hki
        obtain ⟨e', he', hre'⟩ := Paired.at hpz hui
        have sT : Same H6 (upd H6 T (.tup [.str ⟨#[ksign kd]⟩, u])) := Same.new (Same.refl _) hTn
        have cT : (upd H6 T (.tup [.str ⟨#[ksign kd]⟩, u])) T = some (.tup [.str ⟨#[ksign kd]⟩, u]) := upd_same
        generalize upd H6 T (.tup [.str ⟨#[ksign kd]⟩, u]) = H7 at sT cT ⊢
        have s7 := s6.trans sT
        have hre7 := hre'.same s7
        have c7 := sT _ _ c6
        have hi : i < ks.length := (List.getElem?_eq_some_iff.mp hkd).1
        have hsz' : szD e' ≤ 1000000 := Nat.le_trans (szL_get he') hzp
        have t3 : decide (ksign kd ∈ (Str.ofString "Ss").cps.toList) = isScr kd := by cases kd <;> decide +kernel
        have zn : (List.zipWith (lpP n) (ks.take (i + 1)) (ps.take (i + 1))).flatten = (List.zipWith (lpP n) (ks.take i) (ps.take i)).flatten ++ lpP n kd e' := by
          have h1 := (List.getElem?_eq_some_iff.mp hkd).1
          have h2 := (List.getElem?_eq_some_iff.mp he').1
          rw [take_snoc hkd, take_snoc he', List.zipWith_append (by rw [List.length_take, List.length_take]; omega), List.flatten_append]
          show _ ++ (lpP n kd e' ++ []) = _
          rw [List.append_nil]
        have hlp := lpP_le n kd e'
        have w3 : ((List.zipWith (lpP n) (ks.take (i + 1)) (ps.take (i + 1))).flatten).length ≤ 3 * (i + 1) := by
          rw [zn, List.length_append]; omega
        have hbl : bs.length = ks.length := by have := congrArg List.length ebs; rw [List.length_map, List.length_zipWith] at this; omega
        have hbi : bs[i]? = some bs[i] := List.getElem?_eq_getElem (by omega)
        generalize bs[i] = gi at hbi
        have hpB : partB (cnt n) kd e' = some gi := by
          have hL : (List.zipWith (partB (cnt n)) ks ps)[i]? = some (partB (cnt n) kd e') := by rw [List.getElem?_zipWith, hkd, he']
          rw [ebs, List.getElem?_map, hbi] at hL
          exact (Option.some.inj hL).symm
        have hgi : gi ≤ 1000 := by
          have : gi ≤ bs.sum := le_sum (List.mem_of_getElem? hbi)
          omega
        generalize hL : W ++ [("(" : Str), x] ++ (List.zipWith (lpP n) (ks.take i) (ps.take i)).flatten = L at c6 c7
        have hLl : L.length ≤ 35000 := by
          rw [← hL, List.length_append, List.length_append]
          show W.length + 2 + _ ≤ _
          omega
        have cF7 := sT _ _ cF6
        have c7p := sT _ _ c6p
        refine ⟨T, _, rfl, SqT.of cT, rfl, _, _, rfl, _, _, rfl, rfl, ?_⟩
        -- the end of a turn by append
        have app : ∀ (H8 : Hp), Same H7 H8 → lpP n kd e' = [shW 4 e'] → ∃ (p' : Addr) (x4 x5 : Option V), [some (.ref a), some (.ref p), some (.ref Fm), some (.ref t), some (.str ⟨#[ksign kd]⟩), some u] = [some (V.ref a), some (.ref p'), some (.ref Fm), some (.ref t), x4, x5] ∧ Same H (upd H8 p (.lst (L.map V.str ++ [.str (shW 4 e')]))) ∧ (upd H8 p (.lst (L.map V.str ++ [.str (shW 4 e')]))) Fm = some (.dK formK) ∧ (upd H8 p (.lst (L.map V.str ++ [.str (shW 4 e')]))) p2 = some (.tup zs) ∧ H p' = none ∧
            (upd H8 p (.lst (L.map V.str ++ [.str (shW 4 e')]))) p' = some (.lst ((W ++ [("(" : Str), x] ++ (List.zipWith (lpP n) (ks.take (i + 1)) (ps.take (i + 1))).flatten).map V.str)) ∧ ((List.zipWith (lpP n) (ks.take (i + 1)) (ps.take (i + 1))).flatten).length ≤ 3 * (i + 1) := fun H8 s8 hlp' => by
          refine ⟨p, _, _, rfl, fun b o eb => ?_, ?_, ?_, hpn, ?_, w3⟩
          · rw [upd_ne (ne_of_none eb hpn)]; exact s8 _ _ (s7 _ _ eb)
          · rw [upd_ne (ne_of cF7 c7 (by intro z; cases z))]; exact s8 _ _ cF7
          · rw [upd_ne (ne_of c7p c7 (by intro z; cases z))]; exact s8 _ _ c7p
          · rw [upd_same, zn, hlp', ← List.append_assoc, hL, List.map_append]; rfl
        refine ⟨_, rfl, ksign kd, _, rfl, rfl, _, rfl, ?_⟩
        rcases Bool.eq_false_or_eq_true (isScr kd) with hk | hk
        · refine iteB1 (t3.trans hk) ⟨_, rfl, _, rfl, ?_⟩
          rw [rep_nonn hre7]
          unfold partB at hpB
          rw [if_pos hk] at hpB
          rcases Bool.eq_false_or_eq_true (isNon e') with hno | hno
          · refine iteB0 (by rw [hno]; rfl) ?_
            have hd : e' = .none := by cases e' <;> first | rfl | cases hno
            refine ⟨_, rfl, .inl ⟨rfl, _, SqL.of c7⟩, _, rfl, m2, u, e', rfl, hre7, by rw [hd]; rfl, hsz', fun H8 s8 => ?_⟩
            refine ⟨p, _, _, rfl, rfl, s8 _ _ c7, by rw [List.length_map]; exact Nat.lt_of_le_of_lt hLl (by decide), ?_⟩
            exact app H8 s8 (by rw [lpP, if_neg (fun z => by rw [hno] at z; cases z.2)])
          · refine iteB1 (by rw [hno]; rfl) ?_
            rw [if_neg (fun z => by rw [hno] at z; cases z.2)] at hpB
            obtain ⟨n', rfl⟩ : ∃ n', n = n' + 1 := by
              cases n with
              | zero => cases hpB
              | succ n => exact ⟨n, rfl⟩
            obtain ⟨es', rfl⟩ : ∃ es', e' = .tuple es' := by cases e' <;> first | exact ⟨_, rfl⟩ | cases hpB
            have fn := fine_s (n' + 1) (.tuple es') gi hpB
            have hsh : SeqAt.shaped (.tuple es') = true := SeqAt_sh hpB
            have hlpe : lpP (n' + 1) kd (.tuple es') = [("[" : Str)] ++ (if isEmp (.tuple es') = true then [] else [shS (n' + 1) (.tuple es')]) ++ [("]" : Str)] := by rw [lpP, if_pos ⟨hk, hno⟩]
            refine asg_1 ⟨_, rfl, by show 1 ≤ sizeLine; decide, fun l1 hl1 => ?_⟩
            have g1 : Same H7 (upd H7 l1 (.lst [.str "["])) := Same.new (Same.refl _) hl1
            have cl1 : (upd H7 l1 (.lst [.str "["])) l1 = some (.lst [.str "["]) := upd_same
            generalize upd H7 l1 (.lst [.str "["]) = G1 at g1 cl1 ⊢
            refine ⟨p, l1, _, _, rfl, rfl, g1 _ _ c7, cl1, by rw [List.length_map]; exact Nat.le_trans (show L.length + 1 ≤ 40000 by omega) (by decide), fun q1 hq1 => ?_⟩
            have g2 : Same G1 (upd G1 q1 (.lst (L.map V.str ++ [.str "["]))) := Same.new (Same.refl _) hq1
            have cq1 : (upd G1 q1 (.lst (L.map V.str ++ [.str "["]))) q1 = some (.lst ((L ++ [("[" : Str)]).map V.str)) := by rw [upd_same, List.map_append]; rfl
            generalize upd G1 q1 (.lst (L.map V.str ++ [.str "["])) = G2 at g2 cq1 ⊢
            have g12 := g1.trans g2
            refine ⟨_, rfl, m2, u, .tuple es', gi, rfl, hre7.same g12, hpB, hgi, hsz', fun G3 g3 => ⟨by show 1 ≤ sizeLine; decide, fun l2 hl2 => ?_⟩⟩
            have g4 : Same G3 (upd G3 l2 (.lst [.str (shS (n' + 1) (.tuple es'))])) := Same.new (Same.refl _) hl2
            have cl2 : (upd G3 l2 (.lst [.str (shS (n' + 1) (.tuple es'))])) l2 = some (.lst [.str (shS (n' + 1) (.tuple es'))]) := upd_same
            generalize upd G3 l2 (.lst [.str (shS (n' + 1) (.tuple es'))]) = G4 at g4 cl2 ⊢
            refine ⟨_, rfl, by show 0 ≤ sizeLine; decide, fun e0 he0 => ?_⟩
            have g5 : Same G4 (upd G4 e0 (.tup [])) := Same.new (Same.refl _) he0
            have ce0 : (upd G4 e0 (.tup [])) e0 = some (.tup []) := upd_same
            generalize upd G4 e0 (.tup []) = G5 at g5 ce0 ⊢
            have g15 := g12.trans (g3.trans (g4.trans g5))
            refine ⟨.tuple es', .tuple [], fn.dp K G5 m2 u (hre7.same g15), .tup (SqT.of ce0) .nil, hsh, rfl, .inr ⟨_, rfl, ?_⟩⟩
            have hM : ∃ (kk : Int), (if (!PyData.eqv (.tuple es') (.tuple [])) = true then 1 else 0) = kk ∧ 0 ≤ kk ∧ kk ≤ 1 ∧ (List.replicate kk.toNat [V.str (shS (n' + 1) (.tuple es'))]).flatten = (if isEmp (.tuple es') = true then [] else [shS (n' + 1) (.tuple es')]).map V.str := by
              rw [emp_eqv]
              cases es' with
              | nil => exact ⟨0, rfl, by decide, by decide, rfl⟩
              | cons e1 es1 => exact ⟨1, rfl, by decide, by decide, rfl⟩
            obtain ⟨kk, ekk, k0, k1, eM⟩ := hM
            rw [ekk]
            have hMl : (if isEmp (.tuple es') = true then [] else [shS (n' + 1) (.tuple es')]).length ≤ 1 := by
              by_cases h : isEmp (.tuple es') = true
              · rw [if_pos h]; decide
              · rw [if_neg h]; exact Nat.le_refl 1
            generalize hMM : (if isEmp (.tuple es') = true then [] else [shS (n' + 1) (.tuple es')]) = M at eM hMl hlpe
            refine ⟨l2, kk, _, rfl, rfl, g5 _ _ cl2, by omega, by omega, ?_, fun l3 hl3 => ?_⟩
            · show 1 * kk.toNat ≤ sizeLine
              exact Nat.le_trans (show 1 * kk.toNat ≤ 1 by omega) (by decide)
            rw [eM]
            have g6 : Same G5 (upd G5 l3 (.lst (M.map V.str))) := Same.new (Same.refl _) hl3
            have cl3 : (upd G5 l3 (.lst (M.map V.str))) l3 = some (.lst (M.map V.str)) := upd_same
            generalize upd G5 l3 (.lst (M.map V.str)) = G6 at g6 cl3 ⊢
            have cq16 := g6 _ _ (g5 _ _ (g4 _ _ (g3 _ _ cq1)))
            refine ⟨q1, l3, _, _, rfl, rfl, cq16, cl3, ?_, fun q2 hq2 => ?_⟩
            · rw [List.length_map, List.length_map, List.length_append]
              exact Nat.le_trans (show L.length + 1 + M.length ≤ 40000 by omega) (by decide)
            have g7 : Same G6 (upd G6 q2 (.lst ((L ++ [("[" : Str)]).map V.str ++ M.map V.str))) := Same.new (Same.refl _) hq2
            have cq2 : (upd G6 q2 (.lst ((L ++ [("[" : Str)]).map V.str ++ M.map V.str))) q2 = some (.lst ((L ++ [("[" : Str)] ++ M).map V.str)) := by rw [upd_same]; simp
            generalize upd G6 q2 (.lst ((L ++ [("[" : Str)]).map V.str ++ M.map V.str)) = G7 at g7 cq2 ⊢
            refine ⟨by show 1 ≤ sizeLine; decide, fun l4 hl4 => ?_⟩
            have g8 : Same G7 (upd G7 l4 (.lst [.str "]"])) := Same.new (Same.refl _) hl4
            have cl4 : (upd G7 l4 (.lst [.str "]"])) l4 = some (.lst [.str "]"]) := upd_same
            generalize upd G7 l4 (.lst [.str "]"]) = G8 at g8 cl4 ⊢
            refine ⟨q2, l4, _, _, rfl, rfl, g8 _ _ cq2, cl4, ?_, fun q3 hq3 => ?_⟩
            · rw [List.length_map, List.length_append, List.length_append]
              exact Nat.le_trans (show L.length + 1 + M.length + 1 ≤ 40000 by omega) (by decide)
            have g18 := g15.trans (g6.trans (g7.trans g8))
            have g9 : Same G8 (upd G8 q3 (.lst ((L ++ [("[" : Str)] ++ M).map V.str ++ [.str "]"]))) := Same.new (Same.refl _) hq3
            have g19 := g18.trans g9
            refine ⟨q3, some (.str ⟨#[ksign kd]⟩), some u, rfl, s7.trans g19, g19 _ _ cF7, g19 _ _ c7p, fresh_of (s7.trans g18) hq3, ?_, w3⟩
            rw [upd_same, zn, hlpe, ← List.append_assoc, hL]
            simp
        · refine iteB0 (t3.trans hk) (iteF ?_)
          unfold partB at hpB
          rw [if_neg (by rw [hk]; decide)] at hpB
          have hok : partOk kd e' = true := by
            by_cases ho : partOk kd e' = true
            · exact ho
            · rw [if_neg ho] at hpB; cases hpB
          refine ⟨_, rfl, .inl ⟨rfl, _, SqL.of c7⟩, _, rfl, m2, u, e', rfl, hre7, part_isW hok, hsz', fun H8 s8 => ?_⟩
          refine ⟨p, _, _, rfl, rfl, s8 _ _ c7, by rw [List.length_map]; exact Nat.lt_of_le_of_lt hLl (by decide), ?_⟩
          exact app H8 s8 (by rw [lpP, if_neg (fun z => by rw [hk] at z; cases z.1)])
      · rintro σ H6 ⟨p, x4, x5, rfl, s6, cF6, c6p, hpn, c6, w2⟩
        rw [List.take_of_length_le (by omega), List.take_of_length_le (by omega)] at c6 w2
        have en : ((ds.take (j + 1)).map (dpL n)).flatten = W ++ [("(" : Str), x] ++ (List.zipWith (lpP n) ks ps).flatten ++ [(")" : Str)] := by
          rw [take_snoc he, List.map_append, List.flatten_append, hW]
          show _ ++ (dpL n (.tuple (.str x :: ps)) ++ []) = _
          rw [List.append_nil, dpL_form hf]
          simp
        refine ⟨_, rfl, .inl ⟨rfl, _, SqL.of c6⟩, p, _, _, rfl, rfl, c6, ?_, ?_⟩
        · rw [List.length_map, List.length_append, List.length_append]
          exact Nat.lt_of_le_of_lt (show W.length + 2 + _ ≤ 40000 by omega) (by decide)
        · refine ⟨p, _, _, _, rfl, fun b o eb => ?_, ?_, hpn, ?_, ?_⟩
          · rw [upd_ne (ne_of_none eb hpn)]; exact s6 _ _ eb
          · rw [upd_ne (ne_of cF6 c6 (by intro z; cases z))]; exact cF6
          · rw [upd_same, en]; simp
          · rw [en, List.length_append, List.length_append, List.length_append]
            show W.length + 2 + _ + 1 ≤ _
            omega
    · rintro σ H3 ⟨p, x3, x4, x5, rfl, s3, cF3, hpn, c3, w1⟩
      rw [hlen, List.take_length] at c3 w1
      have hjn := law_jn hcc
      refine ⟨⟨_, rfl⟩, _, rfl, _, p, _, rfl, rfl, .inl (SqL.of c3), ?_, ?_⟩
      · rw [show Str.length " " = 1 by decide +kernel, Nat.mul_one]
        show tot ((ds.map (dpL n)).flatten) ≤ _
        have ht := shDs_len (n + 1) (.tuple ds) c hcc
        by_cases hL : (ds.map (dpL n)).flatten = []
        · rw [hL]; exact Nat.zero_le _
        · have h1 := jn_len hL
          rw [hjn] at h1
          unfold shS at h1
          by_cases hs : shDs (n + 1) (.tuple ds) = []
          · rw [hs] at h1
            have : (Txt.join " " []).length = 0 := by decide +kernel
            omega
          · have := jn_len hs
            omega
      · have := k H3 s3
        rw [← hjn] at this
        exact this
theorem ok_lt {f fF fW : Addr} {fd dF dW : FuncData} (F : Fun K "_law_text" "_law_text" sLT f fd) (mG : mg "_law_text" = some (.ref f)) (bG : Binds K fd ["_law_todo"] [])
    (GF : FnOk P w K mg pB CX0 1 fF dF [] spForms) (mF : mg "_law_forms" = some (.ref fF)) (kF : PySem.W.keepIn K (.ref fF) = true) (bF : Binds K dF [] [])
    (GW : FnOk P w K mg pB CX0 6 fW dW ["_law_thing"] (spShow 4)) (mW : mg "_law_shown" = some (.ref fW)) (kW : PySem.W.keepIn K (.ref fW) = true) (bW' : Binds K dW ["_law_thing"] [])
    (mZ : mg "zip" = none) (mInt : mg "int" = none) : ∀ n, n ≤ 29 → FnOk P w K mg pB CX0 (n + 7) f fd ["_law_todo"] (spShS n)
  | 0, h => step_lt F 0 ok_bot mG bG GF mF kF bF GW mW kW bW' mZ mInt h
  | n + 1, h => step_lt F (n + 1) (ok_lt F mG bG GF mF kF bF GW mW kW bW' mZ mInt n (by omega)) mG bG GF mF kF bF GW mW kW bW' mZ mInt h
end
end My

set_option Elab.async false
set_option linter.all false
set_option maxRecDepth 100000
set_option maxHeartbeats 4000000
namespace My
open PySem L2
/-! ### a sign without brackets, read -/
theorem dg_all : ∀ c, c < 128 → (Unicode.isDigit c = true ↔ 48 ≤ c ∧ c ≤ 57) := by decide +kernel
theorem rp_neg {x : Str} {cs : List Nat} (hx : x.cps.toList = 45 :: cs) : Txt.removeprefix x "-" = ⟨cs.toArray⟩ := by
  rw [StrLaws.removeprefix_eq, StrLaws.subAt_eq]
  have e1 : Str.length "-" = 1 := by decide +kernel
  have e2 : (Str.ofString "-").cps.toList = [45] := by decide +kernel
  have hl : x.length = cs.length + 1 := by rw [TL.len_tl]; show x.cps.toList.length = _; rw [hx]; rfl
  rw [e1, e2, hx, hl]
  simp
theorem rp_no {x : Str} {c : Nat} {cs : List Nat} (hx : x.cps.toList = c :: cs) (hc : c ≠ 45) : Txt.removeprefix x "-" = x := by
  rw [StrLaws.removeprefix_eq, StrLaws.subAt_eq]
  have e1 : Str.length "-" = 1 := by decide +kernel
  have e2 : (Str.ofString "-").cps.toList = [45] := by decide +kernel
  rw [e1, e2, hx]
  have h : ((List.drop 0 (c :: cs)).take 1 == [45]) = false := by simpa using hc
  rw [h, Bool.and_false, if_neg (by decide)]
theorem dig_of {l : List Nat} (h : ∀ c ∈ l, 48 ≤ c ∧ c ≤ 57) (hn : l ≠ []) : Txt.isascii ⟨l.toArray⟩ = true ∧ Txt.isdigit ⟨l.toArray⟩ = true := by
  constructor
  · show l.toArray.all (· < 128) = true
    rw [List.all_toArray, List.all_eq_true]
    exact fun c hc => decide_eq_true (by have := h c hc; omega)
  · show (decide (l.toArray.size > 0) && l.toArray.all Unicode.isDigit) = true
    rw [List.all_toArray, Bool.and_eq_true, List.all_eq_true]
    refine ⟨decide_eq_true ?_, fun c hc => (dg_all c (by have := h c hc; omega)).mpr (h c hc)⟩
    rw [List.size_toArray]
    cases l with
    | nil => exact absurd rfl hn
    | cons _ _ => simp
/-- what a leaf's text is read as -/
def leafV : PyData → V
  | .int i => .int i
  | .str x => .str x
  | _ => .non
theorem leaf_facts {d : PyData} (hw : leafW d = true) : d = .none ∨ ∃ x g : Str, leafT d = x ∧ Txt.removeprefix x "-" = g ∧ x.length ≤ 20 ∧ g.length ≤ 10 ∧ decide (V.str x = V.str "-") = false ∧
    ((Txt.isascii g = true ∧ Txt.isdigit g = true ∧ ∃ n, intText? x = some n ∧ leafV d = .int n) ∨ (Txt.isdigit g = false ∧ leafV d = .str x)) := by
  have ne45 : ∀ {x : Str} {c c2 : Nat} {cs : List Nat}, x.cps.toList = c :: c2 :: cs → decide (V.str x = V.str "-") = false := fun h => decide_eq_false fun z => by
    rw [V.str.inj z] at h
    have e2 : (Str.ofString "-").cps.toList = [45] := by decide +kernel
    rw [e2] at h; cases h
  have ne45' : ∀ {x : Str} {c : Nat} {cs : List Nat}, x.cps.toList = c :: cs → c ≠ 45 → decide (V.str x = V.str "-") = false := fun h hc => decide_eq_false fun z => by
    rw [V.str.inj z] at h
    have e2 : (Str.ofString "-").cps.toList = [45] := by decide +kernel
    rw [e2] at h; exact hc (List.cons.inj h).1.symm
  cases d with
  | none => exact .inl rfl
  | str x =>
    right
    obtain ⟨a1, a2, a3⟩ := isWd_let hw
    cases hx : TL.tl x with
    | nil => exact absurd hx a2
    | cons c cs =>
      have hc := a1 c (by rw [hx]; exact List.mem_cons_self ..)
      refine ⟨x, x, rfl, rp_no hx (by omega), by omega, by omega, ne45' hx (by omega), .inr ⟨?_, rfl⟩⟩
      show (decide (x.cps.size > 0) && x.cps.all Unicode.isDigit) = false
      rw [← Array.all_toList, show x.cps.toList = c :: cs from hx, List.all_cons]
      have : Unicode.isDigit c = false := by
        cases h : Unicode.isDigit c with
        | false => rfl
        | true => have := (dg_all c (by omega)).mp h; omega
      rw [this, Bool.false_and, Bool.and_false]
  | int i =>
    right
    have hr : -1000000000 ≤ i ∧ i ≤ 1000000000 := of_decide_eq_true hw
    have dg : ∀ c ∈ TL.numL i.natAbs, 48 ≤ c ∧ c ≤ 57 := fun c hc => TL.numL_digits i.natAbs c hc
    have nl := TL.numL_len (n := i.natAbs) (k := 10) (by decide) (by omega)
    have nn := TL.numL_ne i.natAbs
    have ht := tl_int i
    have hlen : (leafT (.int i)).length = (TL.tl (leafT (.int i))).length := TL.len_tl _
    by_cases hi : i < 0
    · rw [if_pos hi] at ht
      have hcs : (leafT (.int i)).cps.toList = 45 :: TL.numL i.natAbs := ht
      refine ⟨_, ⟨(TL.numL i.natAbs).toArray⟩, rfl, rp_neg hcs, by rw [hlen, ht, List.length_cons]; omega, by show (TL.numL i.natAbs).toArray.size ≤ 10; rw [List.size_toArray]; exact nl, ?_, .inl ⟨(dig_of dg nn).1, (dig_of dg nn).2, i, ?_, rfl⟩⟩
      · cases hq : TL.numL i.natAbs with
        | nil => exact absurd hq nn
        | cons c2 cs2 => rw [hq] at hcs; exact ne45 hcs
      · have := intText_neg hcs (TL.numL_digits _) nn (by rw [hlen, ht, List.length_cons]; omega)
        rw [this, TL.numL_val]
        congr 1
        omega
    · rw [if_neg hi] at ht
      have hcs : (leafT (.int i)).cps.toList = TL.numL i.natAbs := ht
      cases hq : TL.numL i.natAbs with
      | nil => exact absurd hq nn
      | cons c cs =>
        have hc := dg c (by rw [hq]; exact List.mem_cons_self ..)
        have hcs' := hcs
        rw [hq] at hcs'
        have e0 : leafT (.int i) = ⟨(TL.numL i.natAbs).toArray⟩ := TL.ext_tl hcs
        refine ⟨_, leafT (.int i), rfl, rp_no hcs' (by omega), by rw [hlen, ht]; omega, by rw [hlen, ht]; exact nl, ne45' hcs' (by omega), .inl ⟨by rw [e0]; exact (dig_of dg nn).1, by rw [e0]; exact (dig_of dg nn).2, i, ?_, rfl⟩⟩
        have := intText_digits (x := leafT (.int i)) (by rw [hcs]; exact TL.numL_digits _) (by rw [hcs]; exact nn) (by rw [hlen, ht]; omega)
        rw [this, hcs, TL.numL_val]
        congr 1
        omega
  | _ => cases hw
/-! ### any word, read -/
def figs (x : Str) : Str := Txt.removeprefix x "-"
def isFig (x : Str) : Bool := decide ((figs x).length ≤ 10) && (Txt.isascii (figs x) && Txt.isdigit (figs x))
def plainD (x : Str) : PyData := if x = "-" then .none else if isFig x = true then (match intText? x with | some n => .int n | none => .str x) else .str x
theorem dig_all {g : Str} (ha : Txt.isascii g = true) (hg : Txt.isdigit g = true) : (∀ c ∈ g.cps.toList, 48 ≤ c ∧ c ≤ 57) ∧ g.cps.toList ≠ [] := by
  have ha : g.cps.all (· < 128) = true := ha
  have hg : (decide (g.cps.size > 0) && g.cps.all Unicode.isDigit) = true := hg
  rw [Bool.and_eq_true] at hg
  rw [← Array.all_toList, List.all_eq_true] at ha
  have h2 := hg.2
  rw [← Array.all_toList, List.all_eq_true] at h2
  refine ⟨fun c hc => (dg_all c (of_decide_eq_true (ha c hc))).mp (h2 c hc), fun z => ?_⟩
  have h1 := of_decide_eq_true hg.1
  rw [← Array.length_toList, z] at h1
  exact absurd h1 (by decide)
theorem fig_int {x : Str} (h : isFig x = true) : ∃ n, intText? x = some n ∧ x.length ≤ 11 := by
  unfold isFig at h
  rw [Bool.and_eq_true, Bool.and_eq_true, decide_eq_true_eq] at h
  obtain ⟨h1, h2, h3⟩ := h
  obtain ⟨d1, d2⟩ := dig_all h2 h3
  cases hx : x.cps.toList with
  | nil =>
    have ex : x = "" := TL.ext_tl ((show TL.tl x = [] from hx).trans (by decide +kernel))
    subst ex
    exact absurd h3 (by decide +kernel)
  | cons c cs =>
    have hlen : x.length = cs.length + 1 := by rw [TL.len_tl, show TL.tl x = c :: cs from hx]; rfl
    by_cases hc : c = 45
    · subst hc
      have e := rp_neg hx
      unfold figs at h1 d1 d2
      rw [e] at h1 d1 d2
      have h1 : cs.toArray.size ≤ 10 := h1
      rw [List.size_toArray] at h1
      have d1 : ∀ c ∈ cs.toArray.toList, 48 ≤ c ∧ c ≤ 57 := d1
      have d2 : cs.toArray.toList ≠ [] := d2
      rw [List.toList_toArray] at d1 d2
      exact ⟨_, intText_neg hx d1 d2 (by omega), by omega⟩
    · have e := rp_no hx hc
      unfold figs at h1 d1 d2
      rw [e] at h1 d1 d2
      exact ⟨_, intText_digits d1 d2 (by omega), by omega⟩
/-- a leaf's own text -/
theorem plain_leaf {d : PyData} (h : leafW d = true) : plainD (leafT d) = d := by
  rcases leaf_facts h with rfl | ⟨x, g, ex, eg, hx, hg, hne, ha⟩
  · exact if_pos rfl
  · rw [ex]
    have hnd : x ≠ "-" := fun z => by rw [z] at hne; exact absurd hne (by decide +kernel)
    unfold plainD
    rw [if_neg hnd]
    rcases ha with ⟨d1, d2, n, e1, e2⟩ | ⟨d2, e2⟩
    · have hf : isFig x = true := by unfold isFig figs; rw [eg, d1, d2, decide_eq_true hg]; rfl
      rw [if_pos hf, e1]
      cases d <;> first | (cases e2; done) | (cases e2; rfl) | cases h
    · have hf : isFig x = false := by unfold isFig figs; rw [eg, d2, Bool.and_false, Bool.and_false]
      rw [if_neg (by rw [hf]; decide)]
      cases d <;> first | (cases e2; done) | (cases e2; rfl) | cases h
theorem plain_rep (x : Str) (H : Hp) (i : Nat) : Rep H i (leafV (plainD x)) (plainD x) := by
  unfold plainD
  split
  · cases i <;> rfl
  · split
    · split <;> (cases i <;> rfl)
    · cases i <;> rfl
theorem plain_sz (x : Str) : szD (plainD x) ≤ 1 + x.length := by
  unfold plainD
  split
  · show 1 ≤ _; omega
  · split
    · split
      · show 1 ≤ _; omega
      · rw [szD]; omega
    · rw [szD]; omega
section
variable {P : Program} {w : World} {K : PySem.W.Frag} {mg : Str → Option Value} {pB : Heap}
def spPlain : Sp := fun vs H Q _ => ∃ x : Str, vs = [.str x] ∧ x.length ≤ 12000000 ∧ Q (leafV (plainD x)) H
abbrev sPlain : Stmt := top 44
theorem scPlain : FnScope ["sign", "figures"] ["sign"] (defScope sPlain) := ⟨rfl, rfl, rfl, by decide +kernel, rfl, by decide +kernel, by decide +kernel⟩
theorem ok_plain {f : Addr} {fd : FuncData} {tk : Tok} (F : Fun K "plain" "plain" sPlain f fd) (mLen : mg "len" = none) (mInt : mg "int" = none) (mM : mg "MOST_FIGURES" = some (.int 10 tk)) : FnOk P w K mg pB CX0 1 f fd ["sign"] spPlain := by
  refine F.ok scPlain (fun vs H Q E h => ?_) (fun cdv A outer s H vs Q E hr h => ?_)
  · obtain ⟨x, rfl, _⟩ := h
    rfl
  · obtain ⟨x, rfl, hx, k⟩ := h
    have nd := scPlain.nd
    refine ⟨_, pss_cons (ps_if (pt_cmpR op_eq (pv 0) pe_str (nomark _)) (pss_one (ps_ret pe_non)) pss_nil)
      (pss_cons (ps_set (i := 1) nd rfl (Or.inl rfl) (pe_bm PySem.F.plainAttrs_str PySem.F.slot_str_removeprefix PySem.F.type_str_removeprefix mt_removeprefix (pv 0) (pa_cons pe_str pa_nil)))
      (pss_cons (ps_if (PW.pt (pw_and (pt_cmpR op_le (pe_callB call_len_str (by rfl) mLen PySem.boot_len (pa_cons (pv 1) pa_nil)) (pe_glob (by rfl) mM (show RelV (.int 10) _ from ⟨_, rfl⟩)) (nomark _))
          (pw_and (pt_val (pe_bm0 PySem.F.plainAttrs_str PySem.F.slot_str_isascii PySem.F.type_str_isascii mt_isascii (pv 1))) (pw_and1 (pt_val (pe_bm0 PySem.F.plainAttrs_str PySem.F.slot_str_isdigit PySem.F.type_str_isdigit mt_isdigit (pv 1)))))))
          (pss_one (ps_ret (pe_callTy call_int_str (by rfl) mInt (by decide +kernel) (pa_cons (pv 0) pa_nil)))) pss_nil)
      (pss_one (ps_ret (pv 0))))), ?_⟩
    have h1 : x.length ≤ sizeLine := Nat.le_trans hx (by decide)
    have h2 : (Txt.removeprefix x "-").length ≤ sizeLine := by
      refine Nat.le_trans ?_ h1
      rw [StrLaws.removeprefix_eq]
      split
      · show (List.take _ _).toArray.size ≤ x.cps.size
        rw [List.size_toArray, List.length_take, List.length_drop, ← Array.length_toList]
        omega
      · exact Nat.le_refl _
    by_cases hd : x = "-"
    · subst hd
      have e0 : plainD "-" = .none := if_pos rfl
      rw [e0] at k
      exact ⟨_, rfl, rfl, _, rfl, iteB1 (by decide +kernel) k⟩
    refine ⟨_, rfl, rfl, _, rfl, iteB0 (decide_eq_false fun z => hd (V.str.inj z)) ?_⟩
    refine nxt_of (asg_n ⟨_, rfl, rfl, x, "-", rfl, rfl, h1, ?_⟩)
    refine ⟨_, rfl, _, rfl, h2, _, _, rfl, rfl, _, rfl, ?_⟩
    have out : isFig x = false → Q (.str x) H := fun e => by
      have : plainD x = .str x := by
        unfold plainD
        rw [if_neg hd, if_neg (by rw [e]; decide)]
      rw [this] at k
      exact k
    by_cases hl : (Txt.removeprefix x "-").length ≤ 10
    · refine iteB1 (decide_eq_true (by omega)) ⟨_, rfl, rfl, _, rfl, rfl, trivial, _, rfl, ?_⟩
      cases ha : Txt.isascii (Txt.removeprefix x "-") with
      | false => exact iteF ⟨_, rfl, out (by unfold isFig figs; rw [ha, Bool.false_and, Bool.and_false])⟩
      | true =>
        refine iteT ⟨_, rfl, rfl, _, rfl, rfl, trivial, _, rfl, ?_⟩
        cases hg : Txt.isdigit (Txt.removeprefix x "-") with
        | false => exact iteF ⟨_, rfl, out (by unfold isFig figs; rw [hg, Bool.and_false, Bool.and_false])⟩
        | true =>
          have hf : isFig x = true := by unfold isFig figs; rw [ha, hg, decide_eq_true hl]; rfl
          obtain ⟨m, e1, e2⟩ := fig_int hf
          refine iteT ⟨_, rfl, x, m, rfl, e1, Nat.le_trans e2 (by decide), ?_⟩
          have : plainD x = .int m := by
            unfold plainD
            rw [if_neg hd, if_pos hf, e1]
          rw [this] at k
          exact k
    · exact iteB0 (decide_eq_false (by omega)) (iteF ⟨_, rfl, out (by unfold isFig figs; rw [decide_eq_false hl]; rfl)⟩)
end
end My

set_option Elab.async false
set_option linter.all false
set_option maxRecDepth 100000
set_option maxHeartbeats 4000000
namespace My
open PySem L2
/-! ### signs, and the machine that reads them -/
inductive Sg
  | op (o : Str) | cl (c : Str) | lf (d : PyData)
def Sg.tx : Sg → Str
  | .op o => o
  | .cl c => c
  | .lf d => leafT d
def okSg : Sg → Prop
  | .op o => o = "(" ∨ o = "[" ∨ o = "<"
  | .cl c => c = ")" ∨ c = "]" ∨ c = ">"
  | .lf d => leafW d = true
abbrev Mst := List (List PyData) × List PyData
def mstep : Mst → Sg → Option Mst
  | (ar, inn), .op _ => some (inn :: ar, [])
  | (top :: ar, inn), .cl _ => some (ar, top ++ [.tuple inn])
  | ([], _), .cl _ => none
  | (ar, inn), .lf d => some (ar, inn ++ [d])
def mrun : Mst → List Sg → Option Mst
  | s, [] => some s
  | s, g :: gs => (mstep s g).bind fun z => mrun z gs
theorem mrun_app : ∀ (a b : List Sg) (s : Mst), mrun s (a ++ b) = (mrun s a).bind fun z => mrun z b
  | [], _, _ => rfl
  | g :: a, b, s => by
    show (mstep s g).bind (fun z => mrun z (a ++ b)) = ((mstep s g).bind fun z => mrun z a).bind fun z => mrun z b
    cases mstep s g with
    | none => rfl
    | some z => exact mrun_app a b z
theorem mrun_take {gs : List Sg} {s f : Mst} (h : mrun s gs = some f) (i : Nat) : ∃ z, mrun s (gs.take i) = some z := by
  have h' := h
  rw [← List.take_append_drop i gs, mrun_app] at h'
  cases e : mrun s (gs.take i) with
  | none => rw [e] at h'; cases h'
  | some z => exact ⟨z, rfl⟩
theorem mrun_next {gs : List Sg} {s f z : Mst} {i : Nat} {g : Sg} (h : mrun s gs = some f) (hz : mrun s (gs.take i) = some z) (hg : gs[i]? = some g) : ∃ z', mstep z g = some z' ∧ mrun s (gs.take (i + 1)) = some z' := by
  obtain ⟨z', e⟩ := mrun_take h (i + 1)
  refine ⟨z', ?_, e⟩
  rw [take_snoc hg, mrun_app, hz] at e
  have e : (mstep z g).bind (fun z => some z) = some z' := e
  cases h1 : mstep z g with
  | none => rw [h1] at e; cases e
  | some y => rw [h1] at e; exact e
/-! ### its state in the heap -/
def Frm (H0 H : Hp) (i : Nat) (p : Addr) (ds : List PyData) : Prop := H0 p = none ∧ ∃ vs, H p = some (.lst vs) ∧ vs.length ≤ i ∧ Paired (Rep H i) vs ds
theorem Frm.same {H0 H H' : Hp} {i j : Nat} {p : Addr} {ds : List PyData} (h : Frm H0 H i p ds) (s : Same H H') (hij : i ≤ j) : Frm H0 H' j p ds := by
  obtain ⟨h0, vs, hp, hl, hP⟩ := h
  exact ⟨h0, vs, s _ _ hp, by omega, Paired.mapP hP fun _ _ z => (z.same s).mono hij⟩
theorem Frm.keep {H0 H H' : Hp} {i j : Nat} {p q : Addr} {ds : List PyData} {ys zs : List V} (h : Frm H0 H i p ds) (k : Kp q H H') (c : H q = some (.lst ys)) (c' : H' q = some (.lst zs)) (hpq : p ≠ q) (hij : i ≤ j) : Frm H0 H' j p ds := by
  obtain ⟨h0, vs, hp, hl, hP⟩ := h
  exact ⟨h0, vs, k _ _ hp hpq, by omega, Paired.mapP hP fun _ _ z => (z.grown k c c').mono hij⟩
structure Nst (H0 H : Hp) (i : Nat) (A I : Addr) (ps : List Addr) (ar : List (List PyData)) (inn : List PyData) : Prop where
  sm : Same H0 H
  a0 : H0 A = none
  aL : H A = some (.lst (ps.reverse.map V.ref))
  al : ps.length ≤ i
  fr : Paired (Frm H0 H i) ps ar
  fi : Frm H0 H i I inn
  nA : A ≠ I ∧ A ∉ ps
  nI : I ∉ ps
  nP : ps.Nodup
theorem mapF {H0 H H' : Hp} {i j : Nat} {q : Addr} : ∀ {ps : List Addr} {ar : List (List PyData)}, Paired (Frm H0 H i) ps ar → (∀ p ∈ ps, ∀ ds, Frm H0 H i p ds → Frm H0 H' j p ds) → Paired (Frm H0 H' j) ps ar
  | _, _, .nil, _ => .nil
  | _, _, .cons r t, h => .cons (h _ (List.mem_cons_self ..) _ r) (mapF (q := q) t fun p hp => h p (List.mem_cons_of_mem _ hp))
theorem same_new {H0 H : Hp} {A : Addr} {o : HO} (s : Same H0 H) (h : H0 A = none) : Same H0 (upd H A o) := fun b u e => by
  rw [upd_ne (ne_of_none e h)]; exact s b u e
theorem none_of {H0 H : Hp} {J : Addr} (s : Same H0 H) (h : H J = none) : H0 J = none := by
  cases e : H0 J with
  | none => rfl
  | some o => rw [s _ _ e] at h; cases h
theorem mem_ps {H0 H : Hp} {i : Nat} {ps : List Addr} {ar : List (List PyData)} {p : Addr} (h : Paired (Frm H0 H i) ps ar) (hp : p ∈ ps) : ∃ vs, H p = some (.lst vs) := by
  induction h with
  | nil => cases hp
  | cons r _ ih =>
    rcases List.mem_cons.mp hp with rfl | hp
    · obtain ⟨_, vs, e, _⟩ := r
      exact ⟨vs, e⟩
    · exact ih hp
theorem Nst.op {H0 H : Hp} {i : Nat} {A I J : Addr} {ps : List Addr} {ar : List (List PyData)} {inn : List PyData} (h : Nst H0 H i A I ps ar inn)
    (hJ : (upd H A (.lst (ps.reverse.map V.ref ++ [.ref I]))) J = none) : Nst H0 (upd (upd H A (.lst (ps.reverse.map V.ref ++ [.ref I]))) J (.lst [])) (i + 1) A J (I :: ps) (inn :: ar) [] := by
  have s1 : Same H0 (upd H A (.lst (ps.reverse.map V.ref ++ [.ref I]))) := same_new h.sm h.a0
  have k1 : Kp A H (upd H A (.lst (ps.reverse.map V.ref ++ [.ref I]))) := upd_kp
  have c1 : (upd H A (.lst (ps.reverse.map V.ref ++ [.ref I]))) A = some (.lst ((I :: ps).reverse.map V.ref)) := by
    rw [upd_same, List.reverse_cons, List.map_append]; rfl
  generalize upd H A (.lst (ps.reverse.map V.ref ++ [.ref I])) = H1 at hJ s1 k1 c1 ⊢
  have s2 : Same H1 (upd H1 J (.lst [])) := Same.new (Same.refl _) hJ
  have fI1 : Frm H0 H1 i I inn := h.fi.keep k1 h.aL c1 (Ne.symm h.nA.1) (Nat.le_refl _)
  have f1 : Paired (Frm H0 H1 i) ps ar := mapF (q := A) h.fr fun p hp ds f => f.keep k1 h.aL c1 (fun z => h.nA.2 (z ▸ hp)) (Nat.le_refl _)
  have fn : ∀ b vs, H1 b = some (.lst vs) → J ≠ b := fun b vs e z => by rw [z, e] at hJ; cases hJ
  refine ⟨s1.trans s2, h.a0, s2 _ _ c1, by rw [List.length_cons]; have := h.al; omega, .cons (fI1.same s2 (Nat.le_succ _)) (mapF (q := A) f1 fun p hp ds f => f.same s2 (Nat.le_succ _)), ⟨none_of s1 hJ, [], upd_same, Nat.zero_le _, .nil⟩, ⟨Ne.symm (fn _ _ c1), ?_⟩, ?_, ?_⟩
  · intro z
    rcases List.mem_cons.mp z with z | z
    · exact h.nA.1 z
    · exact h.nA.2 z
  · intro z
    rcases List.mem_cons.mp z with z | z
    · obtain ⟨_, vs, e, _⟩ := fI1
      exact fn _ _ e z
    · obtain ⟨vs, e⟩ := mem_ps f1 z
      exact fn _ _ e rfl
  · exact List.nodup_cons.mpr ⟨h.nI, h.nP⟩
theorem Nst.lf {H0 H : Hp} {i : Nat} {A I : Addr} {ps : List Addr} {ar : List (List PyData)} {inn : List PyData} {vs : List V} {v : V} {d : PyData} (h : Nst H0 H i A I ps ar inn) (hI : H I = some (.lst vs)) (hv : ∀ H' : Hp, Rep H' (i + 1) v d) :
    Nst H0 (upd H I (.lst (vs ++ [v]))) (i + 1) A I ps ar (inn ++ [d]) := by
  obtain ⟨h0, vs', hI', hl, hP⟩ := h.fi
  rw [hI] at hI'
  cases hI'
  have k1 : Kp I H (upd H I (.lst (vs ++ [v]))) := upd_kp
  have c1 : (upd H I (.lst (vs ++ [v]))) I = some (.lst (vs ++ [v])) := upd_same
  refine ⟨same_new h.sm h0, h.a0, k1 _ _ h.aL h.nA.1, by have := h.al; omega, mapF (q := I) h.fr fun p hp ds f => f.keep k1 hI c1 (fun z => h.nI (z ▸ hp)) (Nat.le_succ _), ⟨h0, _, c1, by rw [List.length_append]; show _ + 1 ≤ _; omega, ?_⟩, h.nA, h.nI, h.nP⟩
  exact Paired.snoc (Paired.mapP hP fun _ _ z => (z.grown k1 hI c1).mono (Nat.le_succ _)) (hv _)
theorem Nst.cl {H0 H : Hp} {i : Nat} {A I p t : Addr} {ps : List Addr} {ar : List (List PyData)} {top inn : List PyData} {vs us : List V} (h : Nst H0 H i A I (p :: ps) (top :: ar) inn) (hI : H I = some (.lst vs)) (ht : H t = none)
    (hp : (upd (upd H t (.tup vs)) A (.lst (((p :: ps).reverse.map V.ref).dropLast))) p = some (.lst us)) :
    Nst H0 (upd (upd (upd H t (.tup vs)) A (.lst (((p :: ps).reverse.map V.ref).dropLast))) p (.lst (us ++ [.ref t]))) (i + 1) A p ps ar (top ++ [.tuple inn]) := by
  obtain ⟨h0, vs', hI', hl, hP⟩ := h.fi
  rw [hI] at hI'
  cases hI'
  have s1 : Same H (upd H t (.tup vs)) := Same.new (Same.refl _) ht
  have ct : (upd H t (.tup vs)) t = some (.tup vs) := upd_same
  have sm1 : Same H0 (upd H t (.tup vs)) := h.sm.trans s1
  generalize upd H t (.tup vs) = H1 at hp s1 ct sm1 ⊢
  have cA1 := s1 _ _ h.aL
  have ed : ((p :: ps).reverse.map V.ref).dropLast = ps.reverse.map V.ref := by
    rw [List.reverse_cons, List.map_append]
    exact List.dropLast_concat
  rw [ed] at hp ⊢
  have k2 : Kp A H1 (upd H1 A (.lst (ps.reverse.map V.ref))) := upd_kp
  have c2 : (upd H1 A (.lst (ps.reverse.map V.ref))) A = some (.lst (ps.reverse.map V.ref)) := upd_same
  have sm2 : Same H0 (upd H1 A (.lst (ps.reverse.map V.ref))) := same_new sm1 h.a0
  generalize upd H1 A (.lst (ps.reverse.map V.ref)) = H2 at hp k2 c2 sm2 ⊢
  have ntA : t ≠ A := fun z => by rw [z, cA1] at ct; cases ct
  have ct2 : H2 t = some (.tup vs) := k2 _ _ ct ntA
  have nAp : A ≠ p := fun z => h.nA.2 (z ▸ List.mem_cons_self ..)
  have ⟨fp, fps⟩ : Frm H0 H i p top ∧ Paired (Frm H0 H i) ps ar := by cases h.fr with | cons r t => exact ⟨r, t⟩
  have fp2 : Frm H0 H2 i p top := (fp.same s1 (Nat.le_refl _)).keep k2 cA1 c2 (Ne.symm nAp) (Nat.le_refl _)
  have fps2 : Paired (Frm H0 H2 i) ps ar := mapF (q := A) fps fun q hq ds f => (f.same s1 (Nat.le_refl _)).keep k2 cA1 c2 (fun z => h.nA.2 (List.mem_cons_of_mem _ (z ▸ hq))) (Nat.le_refl _)
  have hP2 : Paired (Rep H2 i) vs inn := Paired.mapP hP fun _ _ z => (z.same s1).grown k2 cA1 c2
  obtain ⟨hp0, us', hp', hlu, hPu⟩ := fp2
  rw [hp] at hp'
  cases hp'
  have k3 : Kp p H2 (upd H2 p (.lst (us ++ [.ref t]))) := upd_kp
  have c3 : (upd H2 p (.lst (us ++ [.ref t]))) p = some (.lst (us ++ [.ref t])) := upd_same
  have ntp : t ≠ p := fun z => by rw [z, hp] at ct2; cases ct2
  have nps : p ∉ ps := (List.nodup_cons.mp h.nP).1
  refine ⟨same_new sm2 hp0, h.a0, k3 _ _ c2 nAp, by have := h.al; rw [List.length_cons] at this; omega, mapF (q := p) fps2 fun q hq ds f => f.keep k3 hp c3 (fun z => nps (z ▸ hq)) (Nat.le_succ _), ⟨hp0, _, c3, by rw [List.length_append]; show _ + 1 ≤ _; omega, ?_⟩, ⟨nAp, fun z => h.nA.2 (List.mem_cons_of_mem _ z)⟩, nps, (List.nodup_cons.mp h.nP).2⟩
  refine Paired.snoc (Paired.mapP hPu fun _ _ z => (z.grown k3 hp c3).mono (Nat.le_succ _)) ?_
  exact ⟨t, vs, rfl, k3 _ _ ct2 ntp, Paired.mapP hP2 fun _ _ z => z.grown k3 hp c3⟩
end My

set_option Elab.async false
set_option linter.all false
set_option maxRecDepth 100000
set_option maxHeartbeats 4000000
namespace My
open PySem L2
theorem leaf_ch {d : PyData} (hd : leafW d = true) : ∀ c ∈ TL.tl (leafT d), c = 45 ∨ (48 ≤ c ∧ c ≤ 57) ∨ (97 ≤ c ∧ c ≤ 122) := by
  cases d with
  | none =>
    intro c hc
    have : TL.tl (leafT .none) = [45] := by decide +kernel
    rw [this] at hc
    exact .inl (List.mem_singleton.mp hc)
  | int i =>
    intro c hc
    rw [tl_int] at hc
    have dg := TL.numL_digits i.natAbs
    by_cases hi : i < 0
    · rw [if_pos hi] at hc
      rcases List.mem_cons.mp hc with z | z
      · exact .inl z
      · exact .inr (.inl (dg c z))
    · rw [if_neg hi] at hc
      exact .inr (.inl (dg c hc))
  | str x =>
    intro c hc
    exact .inr (.inr ((isWd_let hd).1 c hc))
  | _ => cases hd
theorem leaf_br {d : PyData} (hd : leafW d = true) {b : Str} {c : Nat} (hb : TL.tl b = [c]) (hc : c = 40 ∨ c = 41 ∨ c = 91 ∨ c = 93 ∨ c = 60 ∨ c = 62) : leafT d ≠ b := fun z => by
  have := leaf_ch hd c (by rw [z, hb]; exact List.mem_singleton.mpr rfl)
  omega
abbrev opL : List V := [.str "(", .str "[", .str "<"]
abbrev clL : List V := [.str ")", .str "]", .str ">"]
theorem in_op {g : Sg} (h : okSg g) : inV (.str g.tx) opL = (match g with | .op _ => true | _ => false) := by
  cases g with
  | op o => rcases h with rfl | rfl | rfl <;> decide +kernel
  | cl c => rcases h with rfl | rfl | rfl <;> decide +kernel
  | lf d =>
    have h1 := leaf_br (b := "(") (c := 40) h (by decide +kernel) (by omega)
    have h2 := leaf_br (b := "[") (c := 91) h (by decide +kernel) (by omega)
    have h3 := leaf_br (b := "<") (c := 60) h (by decide +kernel) (by omega)
    show (eqV _ _ || (eqV _ _ || (eqV _ _ || false))) = false
    simp [eqV, Sg.tx, Ne.symm h1, Ne.symm h2, Ne.symm h3]
theorem in_cl {g : Sg} (h : okSg g) : inV (.str g.tx) clL = (match g with | .cl _ => true | _ => false) := by
  cases g with
  | op o => rcases h with rfl | rfl | rfl <;> decide +kernel
  | cl c => rcases h with rfl | rfl | rfl <;> decide +kernel
  | lf d =>
    have h1 := leaf_br (b := ")") (c := 41) h (by decide +kernel) (by omega)
    have h2 := leaf_br (b := "]") (c := 93) h (by decide +kernel) (by omega)
    have h3 := leaf_br (b := ">") (c := 62) h (by decide +kernel) (by omega)
    show (eqV _ _ || (eqV _ _ || (eqV _ _ || false))) = false
    simp [eqV, Sg.tx, Ne.symm h1, Ne.symm h2, Ne.symm h3]
theorem leaf_rep {d : PyData} (h : leafW d = true) (H : Hp) (i : Nat) : Rep H i (leafV d) d := by
  cases d with
  | none => cases i <;> rfl
  | int i' => cases i <;> rfl
  | str x => cases i <;> rfl
  | _ => cases h
theorem ps_never {X : Cx} {st : Stmt} : PS X st (fun _ _ _ => False) := ⟨fun _ _ _ _ _ _ h => h.elim⟩
end My

set_option Elab.async false
set_option linter.all false
set_option maxRecDepth 100000
set_option maxHeartbeats 4000000
namespace My
open PySem L2
/-! ### the signs of a script -/
def gW : Nat → PyData → List Sg
  | n + 1, .tuple ds => .op "<" :: ((ds.map (gW n)).flatten ++ [.cl ">"])
  | _, d => [.lf d]
def gPart (f : PyData → List Sg) (k : Kd) (d : PyData) : List Sg := if isScr k = true ∧ isNon d = false then .op "[" :: (f d ++ [.cl "]"]) else gW 4 d
def gDeed (f : PyData → List Sg) : PyData → List Sg
  | .tuple (.str x :: ps) => match formOf x with
    | some ks => .op "(" :: .lf (.str x) :: ((List.zipWith (gPart f) ks ps).flatten ++ [.cl ")"])
    | none => []
  | _ => []
def gScr : Nat → PyData → List Sg
  | n + 1, .tuple ds => (ds.map (gDeed (gScr n))).flatten
  | _, _ => []
theorem gW_leaf {n : Nat} {d : PyData} (h : ∀ ds, d ≠ .tuple ds) : gW n d = [.lf d] := by
  cases n <;> cases d <;> first | rfl | exact absurd rfl (h _)
theorem gDeed_form {f : PyData → List Sg} {x : Str} {ps : List PyData} {ks : List Kd} (h : formOf x = some ks) : gDeed f (.tuple (.str x :: ps)) = .op "(" :: .lf (.str x) :: ((List.zipWith (gPart f) ks ps).flatten ++ [.cl ")"]) := by
  show (match formOf x with | some ks => Sg.op "(" :: Sg.lf (.str x) :: ((List.zipWith (gPart f) ks ps).flatten ++ [Sg.cl ")"]) | none => []) = _
  rw [h]
/-- signs that are read as d, and written t -/
structure Good (d : PyData) (gs : List Sg) (t : Str) : Prop where
  ok : ∀ g ∈ gs, okSg g
  run : ∀ ar inn, mrun (ar, inn) gs = some (ar, inn ++ [d])
  tx : Txt.join " " (gs.map Sg.tx) = t
  ne : gs ≠ []
inductive Goods : List PyData → List (List Sg) → List Str → Prop
  | nil : Goods [] [] []
  | cons {d g t ds gs ts} : Good d g t → Goods ds gs ts → Goods (d :: ds) (g :: gs) (t :: ts)
theorem Goods.ok {ds gs ts} (h : Goods ds gs ts) : ∀ g ∈ gs.flatten, okSg g := by
  induction h with
  | nil => intro g hg; cases hg
  | cons a _ ih =>
    intro g hg
    rw [List.flatten_cons] at hg
    rcases List.mem_append.mp hg with z | z
    · exact a.ok g z
    · exact ih g z
theorem Goods.run {ds gs ts} (h : Goods ds gs ts) : ∀ ar inn, mrun (ar, inn) gs.flatten = some (ar, inn ++ ds) := by
  induction h with
  | nil => intro ar inn; rw [List.append_nil]; rfl
  | cons a _ ih =>
    intro ar inn
    rw [List.flatten_cons, mrun_app, a.run]
    show mrun (ar, _) _ = _
    rw [ih, List.append_assoc]; rfl
theorem Goods.tx {ds gs ts} (h : Goods ds gs ts) : ts = (gs.map (List.map Sg.tx)).map (Txt.join " ") ∧ (∀ l ∈ gs.map (List.map Sg.tx), l ≠ []) := by
  induction h with
  | nil => exact ⟨rfl, fun l hl => by cases hl⟩
  | cons a _ ih =>
    refine ⟨by rw [List.map_cons, List.map_cons, a.tx, ← ih.1], fun l hl => ?_⟩
    rw [List.map_cons] at hl
    rcases List.mem_cons.mp hl with z | z
    · rw [z]
      have := a.ne
      simpa using this
    · exact ih.2 l z
theorem Goods.jn {ds gs ts} (h : Goods ds gs ts) : Txt.join " " (gs.flatten.map Sg.tx) = Txt.join " " ts := by
  obtain ⟨h1, h2⟩ := h.tx
  rw [h1, jn_flat h2, List.map_flatten]
theorem Goods.brk {ds gs ts} (h : Goods ds gs ts) (o c : Str) : Txt.join " " ((Sg.op o :: (gs.flatten ++ [Sg.cl c])).map Sg.tx) = brk o ts c := by
  obtain ⟨h1, h2⟩ := h.tx
  unfold My.brk
  have e : (o :: ts) ++ [c] = (([[o]] ++ gs.map (List.map Sg.tx)) ++ [[c]]).map (Txt.join " ") := by
    rw [List.map_append, List.map_append, ← h1]
    show _ = ([Txt.join " " [o]] ++ ts) ++ [Txt.join " " [c]]
    rw [jn_one, jn_one]; rfl
  rw [e, jn_flat, List.flatten_append, List.flatten_append, List.map_cons, List.map_append, List.map_flatten]
  · rfl
  · intro l hl
    rcases List.mem_append.mp hl with z | z
    · rcases List.mem_append.mp z with z | z
      · rw [List.mem_singleton.mp z]; simp
      · exact h2 l z
    · rw [List.mem_singleton.mp z]; simp
/-- between brackets -/
theorem Goods.between {ds gs ts} (h : Goods ds gs ts) {o c : Str} (ho : okSg (.op o)) (hc : okSg (.cl c)) : Good (.tuple ds) (.op o :: (gs.flatten ++ [.cl c])) (My.brk o ts c) := by
  refine ⟨fun g hg => ?_, fun ar inn => ?_, h.brk o c, by simp⟩
  · rcases List.mem_cons.mp hg with z | z
    · rw [z]; exact ho
    · rcases List.mem_append.mp z with z | z
      · exact h.ok g z
      · rw [List.mem_singleton.mp z]; exact hc
  · show mrun (inn :: ar, []) (gs.flatten ++ [.cl c]) = _
    rw [mrun_app, h.run]
    rfl
theorem good_leaf {d : PyData} (h : leafW d = true) : Good d [.lf d] (leafT d) := ⟨fun g hg => by rw [List.mem_singleton.mp hg]; exact h, fun ar inn => rfl, jn_one _, by simp⟩
theorem goods_map {f : PyData → List Sg} {t : PyData → Str} : ∀ (ds : List PyData), (∀ d ∈ ds, Good d (f d) (t d)) → Goods ds (ds.map f) (ds.map t)
  | [], _ => .nil
  | d :: ds, h => .cons (h d (List.mem_cons_self ..)) (goods_map ds fun z hz => h z (List.mem_cons_of_mem _ hz))
theorem good_w : ∀ (n : Nat) (d : PyData), isW n d = true → Good d (gW n d) (shW n d)
  | 0, d, h => by
    have nd : ∀ ds, d ≠ .tuple ds := fun ds z => by rw [z] at h; exact absurd h (by simp [isW])
    rw [gW_leaf nd, shW_leaf nd]
    rw [isW_leaf nd] at h
    exact good_leaf h
  | n + 1, d, h => by
    rcases @notTup d with ⟨ds, rfl⟩ | nd
    · obtain ⟨m, em, _, kd⟩ := isW_tup h
      cases em
      rw [gW, shW]
      exact (goods_map ds fun e he => good_w n e (kd e he)).between (.inr (.inr rfl)) (.inr (.inr rfl))
    · rw [gW_leaf nd, shW_leaf nd]
      rw [isW_leaf nd] at h
      exact good_leaf h
theorem form_words : ∀ p ∈ formL, isWd p.1 = true := by decide +kernel
theorem form_word {x : Str} {ks : List Kd} (h : formOf x = some ks) : leafW (.str x) = true := by
  unfold formOf at h
  obtain ⟨p, hp, _⟩ := Option.map_eq_some_iff.mp h
  have h1 := List.mem_of_find?_eq_some hp
  have h2 := List.find?_some (p := fun p : Str × List Kd => decide (p.1 = x)) hp
  have h3 := form_words p h1
  rw [show p.1 = x from of_decide_eq_true h2] at h3
  exact h3
def SOk (n : Nat) : Prop := ∀ ds c, cnt n (.tuple ds) = some c → ∃ gs, gScr n (.tuple ds) = List.flatten gs ∧ Goods ds gs (shDs n (.tuple ds))
theorem good_part {n : Nat} (S : SOk n) {k : Kd} {d : PyData} {c : Nat} (h : partB (cnt n) k d = some c) : Good d (gPart (gScr n) k d) (shP (shDs n) k d) := by
  unfold gPart shP
  unfold partB at h
  by_cases hk : isScr k = true ∧ isNon d = false
  · rw [if_pos hk, if_pos hk]
    rw [if_pos hk.1, if_neg (fun z => by rw [hk.2] at z; cases z.2)] at h
    obtain ⟨ds, rfl⟩ : ∃ ds, d = .tuple ds := by
      cases n with
      | zero => cases h
      | succ n => cases d <;> first | exact ⟨_, rfl⟩ | cases h
    obtain ⟨gs, e, G⟩ := S ds c h
    rw [e]
    exact G.between (.inr (.inl rfl)) (.inr (.inl rfl))
  · rw [if_neg hk, if_neg hk]
    refine good_w 4 d ?_
    by_cases hs : isScr k = true
    · have hn : isNon d = true := by
        cases hn : isNon d with
        | true => rfl
        | false => exact absurd ⟨hs, hn⟩ hk
      have : d = .none := by cases d <;> first | rfl | cases hn
      rw [this]; rfl
    · rw [if_neg hs] at h
      by_cases ho : partOk k d = true
      · exact part_isW ho
      · rw [if_neg ho] at h; cases h
theorem good_zip {n : Nat} (S : SOk n) : ∀ (ks : List Kd) (ps : List PyData) (c : Nat), ps.length = ks.length → sumO (List.zipWith (partB (cnt n)) ks ps) = some c → Goods ps (List.zipWith (gPart (gScr n)) ks ps) (List.zipWith (shP (shDs n)) ks ps)
  | [], [], _, _, _ => .nil
  | [], _ :: _, _, h, _ => by cases h
  | _ :: _, [], _, h, _ => by cases h
  | k :: ks, p :: ps, c, hl, h => by
    rw [List.zipWith_cons_cons] at h
    cases hb : partB (cnt n) k p with
    | none => rw [hb] at h; cases h
    | some a =>
      rw [hb] at h
      obtain ⟨b, hb2, _⟩ := Option.map_eq_some_iff.mp (show (sumO (List.zipWith (partB (cnt n)) ks ps)).map (a + ·) = some c from h)
      exact .cons (good_part S hb) (good_zip S ks ps b (by simpa using hl) hb2)
theorem good_deed {n : Nat} (S : SOk n) {d : PyData} {c : Nat} (h : deedB (cnt n) d = some c) : Good d (gDeed (gScr n) d) (shDd (shDs n) d) := by
  obtain ⟨x, ps, ks, rfl, hx, hl, hs⟩ := deedB_some h
  rw [gDeed_form hx, shDd_form hx]
  have G := Goods.cons (good_leaf (form_word hx)) (good_zip S ks ps c hl hs)
  exact G.between (.inl rfl) (.inl rfl)
theorem sok : ∀ n, SOk n
  | 0, _, _, h => by cases h
  | n + 1, ds, c, h => by
    rw [cnt] at h
    obtain ⟨b, hb, _⟩ := Option.map_eq_some_iff.mp h
    obtain ⟨cs, ecs, _⟩ := sumO_some hb
    refine ⟨_, rfl, ?_⟩
    rw [shDs]
    refine goods_map ds fun e he => ?_
    have hm : deedB (cnt n) e ∈ ds.map (deedB (cnt n)) := List.mem_map_of_mem he
    rw [ecs] at hm
    obtain ⟨g, _, hg⟩ := List.mem_map.mp hm
    exact good_deed (sok n) hg.symm
/-- all of a script's text -/
theorem scr_all {n c : Nat} {ds : List PyData} (h : cnt n (.tuple ds) = some c) : (∀ g ∈ gScr n (.tuple ds), okSg g) ∧ mrun ([], []) (gScr n (.tuple ds)) = some ([], ds) ∧ Txt.join " " ((gScr n (.tuple ds)).map Sg.tx) = shS n (.tuple ds) := by
  obtain ⟨gs, e, G⟩ := sok n ds c h
  rw [e]
  exact ⟨G.ok, G.run [] [], G.jn⟩
theorem ok_blank {g : Sg} (h : okSg g) : (32 : Nat) ∉ TL.tl g.tx := by
  cases g with
  | op o => rcases h with rfl | rfl | rfl <;> decide +kernel
  | cl c => rcases h with rfl | rfl | rfl <;> decide +kernel
  | lf d => exact (leaf_no h).2.2
theorem ok_long {g : Sg} (h : okSg g) : 1 ≤ g.tx.length := by
  cases g with
  | op o => rcases h with rfl | rfl | rfl <;> decide +kernel
  | cl c => rcases h with rfl | rfl | rfl <;> decide +kernel
  | lf d =>
    cases d with
    | none => decide +kernel
    | str x => have := (isWd_let h).2.1; rw [show Sg.tx (.lf (.str x)) = x from rfl, TL.len_tl]; exact List.length_pos_iff.mpr this
    | int i =>
      rw [show Sg.tx (.lf (.int i)) = leafT (.int i) from rfl, TL.len_tl, tl_int]
      by_cases hi : i < 0
      · rw [if_pos hi]; simp
      · rw [if_neg hi]; exact List.length_pos_iff.mpr (TL.numL_ne _)
    | _ => cases h
theorem split_back {gs : List Sg} (h : ∀ g ∈ gs, okSg g) (hne : gs ≠ []) : Txt.split (Txt.join " " (gs.map Sg.tx)) " " = gs.map Sg.tx := by
  refine TL.split_join (s := 32) (S := []) (by decide +kernel) (by decide +kernel) (by simpa using hne) fun p hp => ?_
  obtain ⟨g, hg, rfl⟩ := List.mem_map.mp hp
  exact ok_blank (h g hg)
theorem text_ne {gs : List Sg} (h : ∀ g ∈ gs, okSg g) (hne : gs ≠ []) : 1 ≤ (Txt.join " " (gs.map Sg.tx)).length ∧ gs.length ≤ (Txt.join " " (gs.map Sg.tx)).length + 1 := by
  have e := jn_len (l := gs.map Sg.tx) (by simpa using hne)
  have key : ∀ gs : List Sg, (∀ g ∈ gs, okSg g) → 2 * gs.length ≤ tot (gs.map Sg.tx) := by
    intro gs
    induction gs with
    | nil => intro _; exact Nat.zero_le _
    | cons g r ih =>
      intro h
      have h1 := ok_long (h g (List.mem_cons_self ..))
      have h2 := ih fun z hz => h z (List.mem_cons_of_mem _ hz)
      rw [List.map_cons, tot_cons, List.length_cons]
      omega
  have h1 := key gs h
  have h2 : 1 ≤ gs.length := List.length_pos_iff.mpr hne
  omega
end My

set_option Elab.async false
set_option linter.all false
set_option maxRecDepth 100000
set_option maxHeartbeats 4000000
namespace L2
open PySem PySem.Spec PyProof.Rows
/-! ### an exception that is caught and kept -/
def Exk (cls : Value) (d : Option Addr) (a : Addr) : HO := .ext fun h => ∃ (oe : Obj) (vs : Array Value), h.get? a = some oe ∧ Zc cls d oe ∧ oe.data = .fields vs
theorem exk_ok {P : Program} {w : World} {H : Hp} {h : Heap} {a : Addr} {cls : Value} {d : Option Addr} {oe : Obj} {vs : Array Value} (e : h.get? a = some oe) (z : Zc cls d oe) (hd : oe.data = .fields vs) : ObjOk P w H h a (Exk cls d a) :=
  ⟨⟨oe, vs, e, z, hd⟩, ⟨oe, e⟩, fun _ _ ⟨o, v, q, r⟩ k => ⟨o, v, k o q, r⟩⟩
theorem exk_at {P : Program} {w : World} {H : Hp} {h : Heap} {a : Addr} {cls : Value} {d : Option Addr} (hok : HOk P w H h) (he : H a = some (Exk cls d a)) : ∃ (oe : Obj) (vs : Array Value), h.get? a = some oe ∧ Zc cls d oe ∧ oe.data = .fields vs := by
  have x : ObjOk P w H h a (.ext fun h => ∃ (oe : Obj) (vs : Array Value), h.get? a = some oe ∧ Zc cls d oe ∧ oe.data = .fields vs) := hok a _ he
  exact x.1
theorem HOk.laidK {P : Program} {w : World} {H : Hp} {h : Heap} {a : Addr} {o : HO} (x : HOk P w H h) (hn : H a = none) (new : ObjOk P w (upd H a o) h a o) : HOk P w (upd H a o) h := fun b u e => by
  by_cases hb : b = a
  · subst hb
    rw [upd_same] at e
    cases e
    exact new
  · rw [upd_ne hb] at e
    exact (x b u e).stay (fun c v _ q => q) (fun c q => by rw [upd_ne (ne_of_none q hn)]; exact q) fun c xs q => by rw [upd_ne (ne_of_none q hn)]; exact q
section
variable {X : Cx} {pins : List (Addr × Obj)} {σ : St} {H : Hp} {s : Shared}
theorem Inv.track {a : Addr} {oe : Obj} {vs : Array Value} {cls : Value} {d : Option Addr} (I : Inv X pins σ H s) (ha : s.heap.get? a = some oe) (hd : oe.data = .fields vs) (hz : Zc cls d oe) (hn : H a = none) (n0 : X.s_0.heap.get? a = none)
    (nL : a ≠ X.env.locals) (np : ∀ p ∈ X.pn ++ pins, p.1 ≠ a) : Inv X pins σ (upd H a (Exk cls d a)) s where
  ok := I.ok
  os := I.os
  bare := I.bare
  base := ⟨I.base.keep, I.base.slot, fun b o q n hx => by rw [upd_ne (fun z => by rw [z, n0] at q; cases q)]; exact I.base.free b o q n hx, I.base.there,
    fun b xs q => by have := I.base.tups b xs q; rw [upd_ne (ne_of_none this hn)]; exact this,
    fun b o u q => by have := I.base.frzs b o u q; rw [upd_ne (ne_of_none this hn)]; exact this,
    fun b ps q => by obtain ⟨m, e⟩ := I.base.tbls b ps q; exact ⟨m, by rw [upd_ne (ne_of_none e hn)]; exact e⟩⟩
  loc := I.loc
  cell := I.cell
  free := by rw [upd_ne (Ne.symm nL)]; exact I.free
  freeC := fun x c e => by
    have hne : c ≠ a := fun z => by
      obtain ⟨v, hv⟩ := I.cell x c e
      obtain ⟨o, ho, hdo⟩ := hv
      rw [z, ha] at ho
      cases ho
      rw [hd] at hdo; cases hdo
    rw [upd_ne hne]; exact I.freeC x c e
  pin := fun p hp => by
    obtain ⟨h1, h2, h3, h4, h5⟩ := I.pin p hp
    exact ⟨h1, by rw [upd_ne (np p hp)]; exact h2, h3, h4, h5⟩
  hok := HOk.laidK I.hok hn (exk_ok ha hz hd)
  len := I.len
end
/-- an exception that has come down in X's own frame: all that is known of it there -/
structure Land (X : Cx) (pins : List (Addr × Obj)) (σ : St) (H : Hp) (s : Shared) (a : Addr) (cls : Value) (d : Option Addr) : Prop where
  inv : Inv X pins σ H s
  obj : ∃ (oe : Obj) (vs : Array Value), s.heap.get? a = some oe ∧ Zc cls d oe ∧ oe.data = .fields vs
  nH : H a = none
  nL : a ≠ X.env.locals
  nF : a ∉ X.fs
  n0 : X.s_0.heap.get? a = none
  nP : ∀ p ∈ X.pn ++ pins, p.1 ≠ a
section
variable {X : Cx} {pins : List (Addr × Obj)} {σ : St} {H : Hp} {s sI : Shared} {a : Addr} {cls : Value} {d : Option Addr} {B : Heap}
theorem land_of (hs : X.stack = X.env :: X.outer) (hex : X.ex = []) (hf : X.env.frame = some X.env.locals) (J : Inv X pins σ H sI) (nb : ∀ b o, sI.heap.get? b = some o → b ∉ frs X.stack → B.get? b = some o)
    (up : sI.heap.UpToSlots s.heap) (fl : HandSPX.FlyingZ B (X.env :: X.outer) a (Zc cls d) s.heap) (na : H a = none) (os : s.os = sI.os) (ag : AllBare s.gens) : Land X pins σ H s a cls d := by
  obtain ⟨st, gB, ff, oe, vs, T, oT, ts, he, hz, hd, _⟩ := fl
  have nofr : a ∉ frs (X.env :: X.outer) := by
    intro hm
    obtain ⟨_, o', e', hnf⟩ := ff.mem hm
    cases he.symm.trans e'
    exact hnf _ hd
  have gI : sI.heap.get? a = none := by
    refine Option.eq_none_iff_forall_ne_some.mpr fun o q => ?_
    exact absurd (gB.symm.trans (nb a o q (hs ▸ nofr))) (by intro z; cases z)
  refine ⟨J.landed nb st up os ag, ⟨oe, vs, he, hz, hd⟩, na, ?_, ?_, ?_, ?_⟩
  · intro z
    exact nofr (List.mem_filterMap.mpr ⟨X.env, List.mem_cons_self, hf.trans (congrArg some z.symm)⟩)
  · intro hm
    obtain ⟨e, he', q⟩ := List.mem_filterMap.mp hm
    exact nofr (List.mem_filterMap.mpr ⟨e, List.mem_cons_of_mem _ he', q⟩)
  · refine Option.eq_none_iff_forall_ne_some.mpr fun o q => ?_
    obtain ⟨o', e'⟩ := J.base.there a o q (by rw [hex]; exact List.not_mem_nil)
    exact absurd (gI.symm.trans e') (by intro z; cases z)
  · intro p hp z
    have h1 := (J.pin p hp).1
    rw [z] at h1
    exact absurd (gI.symm.trans h1) (by intro z; cases z)
theorem Land.suite (L : Land X pins σ H s a cls d) : ∃ oe : Obj, Zc cls d oe ∧ (∃ vs, oe.data = .fields vs) ∧ Inv (X.suite a ((a, oe) :: (X.pn ++ pins))) [] σ H s := by
  obtain ⟨oe, vs, h1, h2, h3⟩ := L.obj
  exact ⟨oe, h2, ⟨vs, h3⟩, L.inv.suite h1 h3 L.nH L.nL L.nF⟩
/-- behind the suite it is one of ours -/
theorem Land.kept (L : Land X pins σ H s a cls d) {oe : Obj} (hz : Zc cls d oe) (hd : ∃ vs, oe.data = .fields vs) {σ' : St} {H' : Hp} {s' : Shared} (S : Inv (X.suite a ((a, oe) :: (X.pn ++ pins))) [] σ' H' s') : Inv X pins σ' (upd H' a (Exk cls d a)) s' := by
  obtain ⟨vs, hd⟩ := hd
  have p := S.pin (a, oe) (List.mem_append_left _ List.mem_cons_self)
  exact (S.unsuite L.inv.ok).track p.1 hd hz p.2.1 L.n0 L.nL L.nP
end
/-- except x as n: k = n (n in slot i, k in slot j): what is wished of what the body raises -/
def wKeep (K : PySem.W.Frag) (c : Value) (i j : Nat) (D : Ends) : WX := fun cls d σ H =>
  PySem.W.exmOne K cls c = some true ∧ ∀ a, H a = none → D.nx (((σ.set i (some (.ref a))).set j (some (.ref a))).set i none) (upd H a (Exk cls d a))
section
variable {X : Cx} {x n : Str} {c : Value} {i j : Nat} {body suite : List Stmt} {b₀ : Stmt} {np pos pos' : Pos} {tb : WX → TS}
theorem ps_try_keep (hs : X.stack = X.env :: X.outer) (hex : X.ex = []) (hf : X.env.frame = some X.env.locals) (hN : X.N.Nodup) (hi : X.N[i]? = some n) (hln : X.env.kindOf n = some .local) (hc : Names X x c)
    (hb : ∀ (W : WX) (pn : List (Addr × Obj)) (xe : Value → Shared → Prop), Takes (X.tr pn xe) W → PassesOwn (model X.prog X.w) X.A X.env xe → PSs (X.tr pn xe) body (tb W))
    (hsu : ∀ (a : Addr) (oe : Obj) (cls : Value) (d : Option Addr) (pn : List (Addr × Obj)), Zc cls d oe → (∃ vs, oe.data = .fields vs) → PSs (X.suite a ((a, oe) :: pn)) (b₀ :: suite) (tAsg (tVar i) (gName j))) :
    PS X (.Try body [.ExceptHandler (some (.Name x np)) (some n) (b₀ :: suite) pos'] [] [] pos) (fun D σ H => tb (wKeep X.K c i j D) D σ H) := by
  refine ⟨fun pins s σ H D I h => wpAny_Try_except ?_⟩
  have fr : X.A.frames = some (X.env :: X.outer) := I.ok.frames.trans (congrArg some hs)
  have caught : ∀ u s', XE (X.tr (X.pn ++ pins) fun e s₁ => wpAny (model X.prog X.w) X.A (noteFrame e X.env) (fun _ s₂ => wpAny (model X.prog X.w) X.A (setFlight e none) (fun _ s₃ =>
      wpAny (model X.prog X.w) X.A (handleBy e X.env [.ExceptHandler (some (.Name x np)) (some n) (b₀ :: suite) pos']) (SP X pins D) X.xe s₃) X.xe s₂) X.xe s₁) (wKeep X.K c i j D) u s' →
      wpAny (model X.prog X.w) X.A (noteFrame u X.env) (fun _ s₂ => wpAny (model X.prog X.w) X.A (setFlight u none) (fun _ s₃ => wpAny (model X.prog X.w) X.A (handleBy u X.env [.ExceptHandler (some (.Name x np)) (some n) (b₀ :: suite) pos']) (SP X pins D) X.xe s₃) X.xe s₂) X.xe s' := by
    rintro u s' ⟨a, B, sI, pins', σ', H', cls, d, rfl, J', nb, up, sky, na, os, ag, hm, hw⟩
    have J : Inv X pins σ' H' sI := J'.ofTry I.ok
    refine Sky.land Zc.steady fr hf (by rw [← hs]; exact sky) fun h3 fl3 up3 => ?_
    have L3 : Land X pins σ' H' { s' with heap := h3 } a cls d := land_of hs hex hf J nb (up.trans up3) fl3 na os ag
    obtain ⟨oe3, z3, f3, S3⟩ := L3.suite
    obtain ⟨ob, _, g3, y3, _⟩ := L3.obj
    have ty : PySem.W.Looks (model X.prog X.w) h3 (typeOf (.ref a)) cls := fun _ _ _ _ k q => wpAny_typeOf_ref (k _ _ g3) (y3.1.symm ▸ q)
    refine wpAny_handleBy_cons (codeAny_handlers_test ?_) Value.noConfusion
    have name : ∀ {Q : Value → Shared → Prop} {E : Value → Shared → Prop}, Q c { s' with heap := h3 } → wpAny (model X.prog X.w) (X.A.mark (some (.ref a))) (eval (.Name x np) X.env) Q E { s' with heap := h3 } := by
      intro Q E q
      rcases hc with ⟨hg, hdbg, hm | ⟨hm, hv, hnn⟩⟩
      · exact ld_glob S3 hg hm q hdbg
      · exact ld_blt S3 hg hm hv q hnn hdbg
    refine name ((PySem.W.exm_one L3.inv.kIn ty hm).here (codeAny_handlers_suite_as (HandSPX.lands_againZ fl3 fun h4 fl4 up4 => ?_)))
    have L4 : Land X pins σ' H' { s' with heap := h4 } a cls d := land_of hs hex hf J nb ((up.trans up3).trans up4) fl4 na os ag
    obtain ⟨oe4, z4, f4, S4⟩ := L4.suite
    refine store_ok (X := X.suite a ((a, oe4) :: (X.pn ++ pins))) (v := .ref a) S4 hN hi (.inl hln) rfl (fun s5 S5 => ?_) (.inr hln)
    refine wpAny_mono ((hsu a oe4 cls d _ z4 f4).run [] s5 _ H' { nx := fun σ6 H6 => D.nx (σ6.set i none) (upd H6 a (Exk cls d a)), rt := fun _ _ => False, bk := fun _ _ => False, ct := fun _ _ => False } S5 ?_) (fun f s6 e6 => ?_) fun _ _ z => z.elim
    · refine ⟨.ref a, ?_, hw a na⟩
      have hl : i < σ'.length := by
        have := (List.getElem?_eq_some_iff.mp hi).1
        rw [J.len]; exact this
      rw [List.getElem?_set_self hl]
    · cases f with
      | next =>
        obtain ⟨σ6, H6, S6, q6⟩ := e6
        exact gone_ok (L4.kept z4 f4 S6) hN hi hln fun s7 J7 => ⟨_, _, J7, q6⟩
      | brk => obtain ⟨_, _, _, q⟩ := e6; exact q.elim
      | cont => obtain ⟨_, _, _, q⟩ := e6; exact q.elim
      | ret u => obtain ⟨_, _, _, _, _, q⟩ := e6; exact q.elim
  refine wpAny_mono ((hb _ (X.pn ++ pins) _ caught PassesOwn.looking).run [] s σ H D (I.toTry _) h) (fun f s1 e1 => ?_) fun _ _ z => z
  cases f with
  | next => obtain ⟨σ1, H1, J1, q⟩ := e1; exact wpAny_execs_nil ⟨σ1, H1, J1.ofTry I.ok, q⟩
  | brk => obtain ⟨σ1, H1, J1, q⟩ := e1; exact ⟨σ1, H1, J1.ofTry I.ok, q⟩
  | cont => obtain ⟨σ1, H1, J1, q⟩ := e1; exact ⟨σ1, H1, J1.ofTry I.ok, q⟩
  | ret u => obtain ⟨v1, σ1, H1, J1, r, q⟩ := e1; exact ⟨v1, σ1, H1, J1.ofTry I.ok, r, q⟩
end
/-- e.n of a kept exception -/
def tXk (K : PySem.W.Frag) (n : Str) (te : TE) : TE := fun σ H Q => te σ H fun x H1 => ∃ (a C dd : Addr) (fs : List (Str × V)) (v : V), x = .ref a ∧ XfC K C ∧ PySem.W.findIn K (.ref C) n = some none ∧ H1 a = some (Exk (.ref C) (some dd) a) ∧ H1 dd = some (.xd fs) ∧ fs.lookup n = some v ∧ Q v H1
theorem pe_xk {X : Cx} {e : Expr} {te : TE} {pos : Pos} {n : Str} (he : PE X e te) (hb : attributeBase e n X.env (eval e X.env) = eval e X.env := by rfl) : PE X (.Attribute e n pos) (tXk X.K n te) := by
  refine ⟨fun pins s σ H Q I h => attr_of hb (thn (he.run pins s σ H _ I h) fun u s1 hh => ?_)⟩
  obtain ⟨_, H1, I1, rx, a, C, dd, fs, v, rfl, T, hno, hea, ea, l, q⟩ := hh
  cases (show u = Value.ref a from rx)
  obtain ⟨oe, vs, ha, hz, hd⟩ := exk_at I1.hok hea
  obtain ⟨mA, hns, hr⟩ := (I1.hok dd _ ea : ObjOk X.prog X.w H1 s1.heap dd (.xd fs))
  obtain ⟨od, ho, hl⟩ := lookIn_ns hns
  obtain ⟨r, hu, ru⟩ := RelO.some_of (v := v) (o := mA n) (l ▸ hr n)
  have nc : PySem.W.notCls oe = true := by
    unfold PySem.W.notCls
    rw [hd] <;> rfl
  have own := PySem.W.findObj_own (T.hdC) hno rfl ((hl n).trans (congrArg some hu))
  exact HandSPX.exc_get I1.kIn ⟨ha, hz.1, nc, hz.2.symm ▸ ho⟩ T.ga T.gg T.exC own (handed_of ru) ⟨v, H1, I1.tok _, ru, q⟩
end L2

set_option Elab.async false
set_option linter.all false
set_option maxRecDepth 100000
set_option maxHeartbeats 4000000
namespace My
open PySem L2
/-! ### the machine over any words -/
def opB (x : Str) : Bool := inV (.str x) opL
def clB (x : Str) : Bool := inV (.str x) clL
def wstep (s : Mst) (x : Str) : Option Mst :=
  if opB x = true then some (s.2 :: s.1, [])
  else if clB x = true then (match s.1 with | [] => none | top :: ar => some (ar, top ++ [.tuple s.2]))
  else some (s.1, s.2 ++ [plainD x])
def wrun : Mst → List Str → Option Mst
  | s, [] => some s
  | s, x :: xs => (wstep s x).bind fun z => wrun z xs
theorem wrun_app : ∀ (a b : List Str) (s : Mst), wrun s (a ++ b) = (wrun s a).bind fun z => wrun z b
  | [], _, _ => rfl
  | g :: a, b, s => by
    show (wstep s g).bind (fun z => wrun z (a ++ b)) = ((wstep s g).bind fun z => wrun z a).bind fun z => wrun z b
    cases wstep s g with
    | none => rfl
    | some z => exact wrun_app a b z
theorem wrun_next {ws : List Str} {s z : Mst} {i : Nat} {x : Str} (hz : wrun s (ws.take i) = some z) (hx : ws[i]? = some x) : wrun s (ws.take (i + 1)) = wstep z x := by
  rw [take_snoc hx, wrun_app, hz]
  show (wstep z x).bind (fun z => some z) = _
  cases wstep z x <;> rfl
theorem wrun_stop {ws : List Str} {s z : Mst} {i : Nat} {x : Str} (hz : wrun s (ws.take i) = some z) (hx : ws[i]? = some x) (h : wstep z x = none) : wrun s ws = none := by
  have h' := wrun_next hz hx
  rw [h] at h'
  rw [← List.take_append_drop (i + 1) ws, wrun_app, h']
  rfl
theorem sg_step {g : Sg} (h : okSg g) (s : Mst) : wstep s g.tx = mstep s g := by
  unfold wstep opB clB
  rw [in_op h, in_cl h]
  obtain ⟨ar, inn⟩ := s
  cases g with
  | op o => rfl
  | cl c => cases ar <;> rfl
  | lf d =>
    show some (ar, inn ++ [plainD (leafT d)]) = some (ar, inn ++ [d])
    rw [plain_leaf h]
theorem sg_run : ∀ {gs : List Sg} (s : Mst), (∀ g ∈ gs, okSg g) → wrun s (gs.map Sg.tx) = mrun s gs
  | [], _, _ => rfl
  | g :: gs, s, h => by
    show (wstep s g.tx).bind (fun z => wrun z (gs.map Sg.tx)) = (mstep s g).bind fun z => mrun z gs
    rw [sg_step (h g (List.mem_cons_self ..))]
    cases mstep s g with
    | none => rfl
    | some z => exact sg_run z fun x hx => h x (List.mem_cons_of_mem _ hx)
/-! how large what is read is -/
def stZ (s : Mst) : Nat := szL s.2 + (s.1.map fun l => 1 + szL l).sum
theorem wstep_sz {s z : Mst} {x : Str} (h : wstep s x = some z) : stZ z ≤ stZ s + (1 + x.length) := by
  obtain ⟨ar, inn⟩ := s
  unfold wstep at h
  by_cases h1 : opB x = true
  · rw [if_pos h1] at h
    cases h
    show szL [] + ((inn :: ar).map fun l => 1 + szL l).sum ≤ szL inn + (ar.map fun l => 1 + szL l).sum + _
    rw [List.map_cons, List.sum_cons, szL]; omega
  · rw [if_neg h1] at h
    by_cases h2 : clB x = true
    · rw [if_pos h2] at h
      cases ar with
      | nil => cases h
      | cons top ar =>
        cases h
        show szL (top ++ [.tuple inn]) + (ar.map fun l => 1 + szL l).sum ≤ szL inn + ((top :: ar).map fun l => 1 + szL l).sum + _
        rw [szL_app, szL, szL, szD, List.map_cons, List.sum_cons]; omega
    · rw [if_neg h2] at h
      cases h
      have := plain_sz x
      show szL (inn ++ [plainD x]) + (ar.map fun l => 1 + szL l).sum ≤ szL inn + (ar.map fun l => 1 + szL l).sum + _
      rw [szL_app, szL, szL]; omega
theorem wrun_sz : ∀ {ws : List Str} {s z : Mst}, wrun s ws = some z → stZ z ≤ stZ s + tot ws
  | [], s, z, h => by cases h; rw [tot_nil]; omega
  | x :: ws, s, z, h => by
    have h : (wstep s x).bind (fun z => wrun z ws) = some z := h
    cases e : wstep s x with
    | none => rw [e] at h; cases h
    | some y =>
      rw [e] at h
      have h1 := wstep_sz e
      have h2 := wrun_sz (show wrun y ws = some z from h)
      rw [tot_cons]; omega
section
variable {P : Program} {w : World} {K : PySem.W.Frag} {mg : Str → Option Value} {pB : Heap}
/-! ### NoText -/
def spNT (C : Addr) : Sp := fun vs H Q _ => ∃ (a : Addr) (v : V), vs = [.ref a, v] ∧ H a = some (exo a C none) ∧ ∀ dx, H dx = none → dx ≠ a → Q .non (upd (upd H dx (exd dx [("row", v)])) a (exo a C (some dx)))
abbrev sNT : Stmt := inClass (top 1) 0
theorem scNT : FnScope ["self", "row"] ["self", "row"] (defScope sNT) := ⟨rfl, rfl, rfl, by decide +kernel, rfl, by decide +kernel, by decide +kernel⟩
theorem ok_nt {f C : Addr} {fd : FuncData} (F : Fun K "__init__" "NoText.__init__" sNT f fd) (T : OexC K C) (mV : mg "ValueError" = none) (vV : PySem.W.findCls K (.type "ValueError") (.type "type") "__init__" = some (.val (.builtin "ValueError.__init__"))) (nf : PySem.W.findIn K (.ref C) "row" = some none) :
    FnOk P w K mg pB CX0 1 f fd ["self", "row"] (spNT C) := by
  refine F.ok scNT (fun vs H Q E h => ?_) (fun cdv A outer s H vs Q E hr h => ?_)
  · obtain ⟨a, v, rfl, _⟩ := h
    rfl
  · obtain ⟨a, v, rfl, ha, k⟩ := h
    refine ⟨_, pss_cons (ps_expr (pe_veinit (by rfl) mV vV (pa_cons (pv 0) (pa_cons pe_str pa_nil)))) (pss_one (ps_ost (pv 0) (pv 1))), ?_⟩
    exact ⟨_, rfl, a, C, [_], rfl, (by show 1 ≤ 1000; decide), T, ha, _, rfl, _, rfl, a, C, rfl, T, nf, .inl ⟨ha, fun dx n ne => k dx n ne⟩⟩
/-- all that is wanted of the class to raise it -/
structure NTx (P : Program) (w : World) (K : PySem.W.Frag) (mg : Str → Option Value) (pB : Heap) (C f : Addr) (fd : FuncData) : Prop where
  T : OexC K C
  iC : PySem.W.findIn K (.ref C) "__init__" = some (some (.ref f))
  tI : PySem.W.typeIn K (.ref f) = some (.type "function")
  G : FnOk P w K mg pB CX0 1 f fd ["self", "row"] (spNT C)
  b : Binds K fd ["self", "row"] []
  m : mg "NoText" = some (.ref C)
/-- NoText(i) made, read -/
theorem rd_nt {C : Addr} {H : Hp} {Q : XK} {i : Int} (h : ∀ d H', Same H H' → H d = none → H' d = some (.xd [("row", .int i)]) → Q (.ref C) (some d) H') :
    ∀ a, H a = none → spNT C (.ref a :: ([V.int i] ++ [])) (upd H a (exo a C none)) (fun v H2 => v = .non ∧ ∃ (d : Addr) (fs : List (Str × V)), H2 a = some (exo a C (some d)) ∧ H2 d = some (exd d fs) ∧ H d = none ∧ Q (.ref C) (some d) (upd (del H2 a) d (.xd fs))) (fun _ _ _ => False) := by
  intro a ha
  refine ⟨a, .int i, rfl, upd_same, fun dx hdx ne => ⟨rfl, dx, [("row", .int i)], upd_same, by rw [upd_ne ne, upd_same], by rw [upd_ne ne] at hdx; exact hdx, ?_⟩⟩
  rw [upd_ne ne] at hdx
  refine h dx _ (fun b o e => ?_) hdx upd_same
  have nb : b ≠ a := ne_of_none e ha
  have nd : b ≠ dx := ne_of_none e hdx
  rw [upd_ne nd, del_ne nb, upd_ne nb, upd_ne nd, upd_ne nb]
  exact e
/-! ### nested, of any words -/
def spNest (C : Addr) : Sp := fun vs H Q E => ∃ (s : Addr) (ws : List Str), vs = [.ref s] ∧ H s = some (.lst (ws.map V.str)) ∧ ws.length ≤ 16000000 ∧ (∀ x ∈ ws, x.length ≤ 12000000) ∧
  (∀ ds, wrun ([], []) ws = some ([], ds) → ∀ (a : Addr) (m : Nat) (H' : Hp), Same H H' → Rep H' m (.ref a) (.tuple ds) → Q (.ref a) H') ∧
  ((∀ ds, wrun ([], []) ws ≠ some ([], ds)) → ∀ (d : Addr) (H' : Hp), Same H H' → H d = none → H' d = some (.xd [("row", .int 0)]) → E (.ref C) (some d) H')
abbrev sNest : Stmt := top 43
theorem scNest : FnScope ["signs", "around", "inner", "sign", "closed"] ["signs"] (defScope sNest) := ⟨rfl, rfl, rfl, by decide +kernel, rfl, by decide +kernel, by decide +kernel⟩
theorem ok_nest {f fP oA cA C fX : Addr} {fd dP dX : FuncData} (F : Fun K "nested" "nested" sNest f fd) (X : NTx P w K mg pB C fX dX)
    (GP : FnOk P w K mg pB CX0 1 fP dP ["sign"] spPlain) (mP : mg "plain" = some (.ref fP)) (kP : PySem.W.keepIn K (.ref fP) = true) (bP : Binds K dP ["sign"] [])
    (mO : mg "OPENING" = some (.ref oA)) (hO : ∀ H, SqT K H oA opL) (mC : mg "CLOSING" = some (.ref cA)) (hC : ∀ H, SqT K H cA clL) (mT : mg "tuple" = none) : FnOk P w K mg pB (CX P w) 3 f fd ["signs"] (spNest C) := by
  refine F.okX scNest (fun vs H Q E h => ?_) (fun cdv A outer s H vs Q E hr h => ?_)
  · obtain ⟨s, ws, rfl, _⟩ := h
    rfl
  · obtain ⟨sA, ws, rfl, hs, hlen, hwl, k, kx⟩ := h
    have nd := scNest.nd
    have hr1 : Room 1 _ := hr.mono (by decide)
    refine ⟨_, pss_cons (ps_set (i := 1) nd rfl (Or.inl rfl) (pe_lst pa_nil)) (pss_cons (ps_set (i := 2) nd rfl (Or.inl rfl) (pe_lst pa_nil))
      (pss_cons (ps_for (passes_of rfl) rfl (pi_list (pv 0)) (pg_name (i := 3) nd rfl (Or.inl rfl))
        (pss_one (ps_if (pt_cmpR op_in_seq (pv 3) (pe_glob (by rfl) mO (show RelV (.ref oA) _ from rfl)) (by rfl))
          (pss_cons (ps_expr (pe_bm PySem.F.plainAttrs_list PySem.F.slot_list_append PySem.F.type_list_append mt_append (pv 1) (pa_cons (pv 2) pa_nil))) (pss_one (ps_set (i := 2) nd rfl (Or.inl rfl) (pe_lst pa_nil))))
          (pss_one (ps_if (pt_cmpR op_in_seq (pv 3) (pe_glob (by rfl) mC (show RelV (.ref cA) _ from rfl)) (by rfl))
            (pss_cons (ps_if (pt_not (pt_truth (pv 1) (by intro _; rfl))) (pss_one (ps_raise rfl (takes_of rfl rfl rfl rfl) (pmk_oex X.T X.iC X.tI X.G hr X.b .nil pass0 (by rfl) X.m (pa_cons pe_int pa_nil)))) pss_nil)
            (pss_cons (ps_set (i := 4) nd rfl (Or.inl rfl) (pe_callTy call_tuple_of (by rfl) mT (by decide +kernel) (pa_cons (pv 2) pa_nil)))
            (pss_cons (ps_set (i := 2) nd rfl (Or.inl rfl) (pe_bm0 PySem.F.plainAttrs_list PySem.F.slot_list_pop PySem.F.type_list_pop mt_pop (pv 1)))
            (pss_one (ps_expr (pe_bm PySem.F.plainAttrs_list PySem.F.slot_list_append PySem.F.type_list_append mt_append (pv 2) (pa_cons (pv 4) pa_nil)))))))
            (pss_one (ps_expr (pe_bm PySem.F.plainAttrs_list PySem.F.slot_list_append PySem.F.type_list_append mt_append (pv 2) (pa_cons (pe_call GP hr1 rfl mP kP bP .nil pass0 (pa_cons (pv 3) pa_nil)) pa_nil)))))))))
      (pss_cons (ps_if (pt_truth (pv 1) (by intro _; rfl)) (pss_one (ps_raise rfl (takes_of rfl rfl rfl rfl) (pmk_oex X.T X.iC X.tI X.G hr X.b .nil pass0 (by rfl) X.m (pa_cons pe_int pa_nil)))) pss_nil)
      (pss_one (ps_ret (pe_callTy call_tuple_of (by rfl) mT (by decide +kernel) (pa_cons (pv 2) pa_nil))))))), ?_⟩
    refine asg_n ⟨Nat.zero_le _, fun A hA => asg_n ⟨Nat.zero_le _, fun I hI => ?_⟩⟩
    have s1 : Same H (upd H A (.lst [])) := Same.new (Same.refl _) hA
    have cA1 : (upd H A (.lst [])) A = some (.lst []) := upd_same
    generalize upd H A (.lst []) = H1 at s1 cA1 hI ⊢
    have s2 : Same H1 (upd H1 I (.lst [])) := Same.new (Same.refl _) hI
    have n0 : Nst H (upd H1 I (.lst [])) 0 A I [] [] [] := ⟨s1.trans s2, hA, s2 _ _ cA1, Nat.le_refl _, .nil, ⟨none_of s1 hI, [], upd_same, Nat.le_refl _, .nil⟩, ⟨fun z => (by rw [← z, cA1] at hI; cases hI), (by simp)⟩, (by simp), List.nodup_nil⟩
    generalize upd H1 I (.lst []) = H2 at n0 ⊢
    have small : ∀ j : Nat, j ≤ ws.length → j < sizeLine := fun j hj => Nat.lt_of_le_of_lt (show j ≤ 16000000 by omega) (by decide)
    refine ⟨_, rfl, sA, rfl, ⟨_, SqL.of (n0.sm _ _ hs)⟩, for_list (xs := ws.map V.str) (fun i σ H3 => ∃ (I : Addr) (ps : List Addr) (ar : List (List PyData)) (inn : List PyData) (x3 x4 : Option V), σ = [some (.ref sA), some (.ref A), some (.ref I), x3, x4] ∧ wrun ([], []) (ws.take i) = some (ar, inn) ∧ Nst H H3 i A I ps ar inn) ⟨I, [], [], [], none, none, rfl, rfl, n0⟩ ?_ ?_ ?_⟩
    · rintro i σ H3 _ ⟨I, ps, ar, inn, x3, x4, rfl, _, n3⟩
      exact SqL.of (n3.sm _ _ hs)
    · rintro i y σ H3 hy ⟨I, ps, ar, inn, x3, x4, rfl, hm, n3⟩
      rw [List.getElem?_map] at hy
      obtain ⟨x, hx, rfl⟩ := Option.map_eq_some_iff.mp hy
      have hi : i < ws.length := (List.getElem?_eq_some_iff.mp hx).1
      have hxl := hwl x (List.mem_of_getElem? hx)
      have hm' := wrun_next hm hx
      obtain ⟨hI0, vs, hIv, hvl, hPv⟩ := n3.fi
      refine ⟨_, rfl, oA, _, rfl, .inr (hO H3), rfl, rfl, _, rfl, ?_⟩
      rw [show (if false = true then !inV (.str x) opL else inV (.str x) opL) = opB x from rfl]
      cases ho : opB x with
      | true =>
        have hs' : wstep (ar, inn) x = some (inn :: ar, []) := if_pos ho
        rw [hs'] at hm'
        refine iteT ⟨_, rfl, .inl ⟨rfl, _, SqL.of n3.aL⟩, _, rfl, A, _, _, rfl, rfl, n3.aL, ?_, ?_⟩
        · rw [List.length_map, List.length_reverse]
          exact small _ (by have := n3.al; omega)
        · refine ⟨Nat.zero_le _, fun J hJ => ?_⟩
          exact ⟨J, _, _, _, _, _, rfl, hm', n3.op hJ⟩
      | false =>
        refine iteF ⟨_, rfl, cA, _, rfl, .inr (hC H3), rfl, rfl, _, rfl, ?_⟩
        rw [show (if false = true then !inV (.str x) clL else inV (.str x) clL) = clB x from rfl]
        cases hcl : clB x with
        | true =>
          have hs0 : wstep (ar, inn) x = (match ar with | [] => none | top :: ar => some (ar, top ++ [.tuple inn])) := by
            unfold wstep
            rw [if_neg (by rw [ho]; decide), if_pos hcl]
            cases ar <;> rfl
          cases ar with
          | nil =>
            cases ps with
            | cons p ps => cases n3.fr
            | nil =>
            refine iteT ⟨_, rfl, _, .inl ⟨_, SqL.of n3.aL, rfl⟩, ?_⟩
            refine iteB1 rfl ⟨by show 1 ≤ 1000; decide, rd_nt fun d H9 s9 hd hx' => ?_⟩
            refine kx (fun ds => ?_) d H9 (n3.sm.trans s9) (fresh_of n3.sm hd) hx'
            rw [wrun_stop hm hx hs0]
            intro z; cases z
          | cons top ar =>
          rw [hs0] at hm'
          cases ps with
          | nil => cases n3.fr
          | cons p ps =>
          refine iteT ⟨_, rfl, _, .inl ⟨_, SqL.of n3.aL, rfl⟩, ?_⟩
          refine iteB0 (by simp) (nxt_of (asg_n ⟨_, rfl, I, vs, rfl, .inl ⟨SqL.of hIv, fun t ht => ?_⟩⟩))
          have cA4 : (upd H3 t (.tup vs)) A = some (.lst ((p :: ps).reverse.map V.ref)) := Same.new (Same.refl _) ht _ _ n3.aL
          refine asg_n ⟨_, rfl, .inl ⟨rfl, _, SqL.of cA4⟩, A, _, .ref p, rfl, rfl, cA4, ?_, ?_⟩
          · rw [List.reverse_cons, List.map_append]
            simp
          · obtain ⟨_, us, hp3, hul, _⟩ : Frm H H3 i p top := by cases n3.fr with | cons r t => exact r
            have nAp : p ≠ A := fun z => n3.nA.2 (z ▸ List.mem_cons_self ..)
            have hp5 : (upd (upd H3 t (.tup vs)) A (.lst (((p :: ps).reverse.map V.ref).dropLast))) p = some (.lst us) := by
              rw [upd_ne nAp]
              exact Same.new (Same.refl _) ht _ _ hp3
            refine ⟨_, rfl, .inl ⟨rfl, _, SqL.of hp5⟩, _, rfl, p, _, _, rfl, rfl, hp5, small _ (by omega), ?_⟩
            exact ⟨p, _, _, _, _, _, rfl, hm', n3.cl hIv ht hp5⟩
        | false =>
          have hs0 : wstep (ar, inn) x = some (ar, inn ++ [plainD x]) := by
            unfold wstep
            rw [if_neg (by rw [ho]; decide), if_neg (by rw [hcl]; decide)]
          rw [hs0] at hm'
          refine iteF ⟨_, rfl, .inl ⟨rfl, _, SqL.of hIv⟩, _, rfl, x, rfl, hxl, I, _, _, rfl, rfl, hIv, small _ (by omega), ?_⟩
          exact ⟨I, _, _, _, _, _, rfl, hm', n3.lf hIv fun H' => plain_rep x H' _⟩
    · rintro σ H3 ⟨I, ps, ar, inn, x3, x4, rfl, hm, n3⟩
      rw [List.length_map, List.take_length] at hm
      cases hps : ps with
      | cons p ps' =>
        have haL := n3.aL
        obtain ⟨top, ar', rfl⟩ : ∃ top ar', ar = top :: ar' := by
          have := n3.fr
          rw [hps] at this
          cases this with
          | cons r t => exact ⟨_, _, rfl⟩
        refine ⟨_, rfl, _, .inl ⟨_, SqL.of haL, rfl⟩, iteB1 (by rw [hps]; simp) ⟨by show 1 ≤ 1000; decide, rd_nt fun d H9 s9 hd hx' => ?_⟩⟩
        refine kx (fun ds => ?_) d H9 (n3.sm.trans s9) (fresh_of n3.sm hd) hx'
        rw [hm]
        intro z; cases z
      | nil =>
      have haL := n3.aL
      rw [hps] at haL
      have ear : ar = [] := by
        have := n3.fr
        rw [hps] at this
        cases this
        rfl
      subst ear
      obtain ⟨hI0, vs, hIv, hvl, hPv⟩ := n3.fi
      refine ⟨_, rfl, _, .inl ⟨_, SqL.of haL, rfl⟩, iteF (nxt_r ⟨_, rfl, I, vs, rfl, .inl ⟨SqL.of hIv, fun t ht => ?_⟩⟩)⟩
      have s4 : Same H3 (upd H3 t (.tup vs)) := Same.new (Same.refl _) ht
      exact k inn hm t (_ + 1) _ (n3.sm.trans s4) ⟨t, vs, rfl, upd_same, Paired.mapP hPv fun _ _ z => z.same s4⟩
end
end My

set_option Elab.async false
set_option linter.all false
set_option maxRecDepth 100000
set_option maxHeartbeats 4000000
namespace My
open PySem L2
/-! ### what a text is read as -/
def readD (t : Str) : Option (List PyData) :=
  if t = "" then some [] else match wrun ([], []) (Txt.split t " ") with
    | some ([], ds) => if isS (.tuple ds) = true ∧ shS 5 (.tuple ds) = t then some ds else none
    | _ => none
theorem split_tot {t : Str} (h : t ≠ "") : Txt.split t " " ≠ [] ∧ tot (Txt.split t " ") = t.length + 1 := by
  have e := StrLaws.join_split t " "
  rw [← TL.join_eq] at e
  have hne : Txt.split t " " ≠ [] := fun z => by
    rw [z] at e
    exact h (e.symm.trans (by decide +kernel))
  refine ⟨hne, ?_⟩
  rw [← jn_len hne, e]
theorem tot_len : ∀ (l : List Str), l.length ≤ tot l ∧ ∀ x ∈ l, x.length ≤ tot l
  | [] => ⟨Nat.le_refl _, fun x hx => nomatch hx⟩
  | y :: l => by
    obtain ⟨h1, h2⟩ := tot_len l
    rw [tot_cons, List.length_cons]
    refine ⟨by omega, fun x hx => ?_⟩
    rcases List.mem_cons.mp hx with rfl | hx
    · omega
    · have := h2 x hx; omega
theorem isS_cnt {d : PyData} (h : isS d = true) : ∃ c, cnt 5 d = some c ∧ c ≤ 200 := by
  unfold isS at h
  cases e : cnt 5 d with
  | none => rw [e] at h; cases h
  | some c =>
    rw [e] at h
    exact ⟨c, rfl, of_decide_eq_true h⟩
/-- a script's own text is read as it -/
theorem read_own {ds : List PyData} {c : Nat} (h : cnt 5 (.tuple ds) = some c) (hc : c ≤ 200) : readD (shS 5 (.tuple ds)) = some ds := by
  obtain ⟨hok, hrun, htx⟩ := scr_all h
  have hS : isS (.tuple ds) = true := by
    unfold isS
    rw [h]
    exact decide_eq_true hc
  unfold readD
  by_cases hg : gScr 5 (.tuple ds) = []
  · rw [hg] at hrun htx
    have e1 : (([], []) : Mst) = ([], ds) := Option.some.inj hrun
    have e2 : ds = [] := (Prod.mk.inj e1).2.symm
    subst e2
    exact if_pos (by decide +kernel)
  · have ht := text_ne hok hg
    rw [htx] at ht
    rw [if_neg (fun z => by rw [z] at ht; exact absurd ht.1 (by decide +kernel))]
    have esp : Txt.split (shS 5 (.tuple ds)) " " = (gScr 5 (.tuple ds)).map Sg.tx := by rw [← htx]; exact split_back hok hg
    rw [esp, sg_run _ hok, hrun]
    exact if_pos ⟨hS, rfl⟩
theorem read_is {t : Str} {ds : List PyData} (h : readD t = some ds) : isS (.tuple ds) = true ∧ shS 5 (.tuple ds) = t := by
  unfold readD at h
  by_cases h0 : t = ""
  · rw [if_pos h0] at h
    cases h
    exact ⟨by decide +kernel, by rw [h0]; decide +kernel⟩
  · rw [if_neg h0] at h
    split at h
    · rename_i ds' e
      by_cases h1 : isS (.tuple ds') = true ∧ shS 5 (.tuple ds') = t
      · rw [if_pos h1] at h
        cases h
        exact h1
      · rw [if_neg h1] at h; cases h
    · cases h
section
variable {P : Program} {w : World} {K : PySem.W.Frag} {mg : Str → Option Value} {pB : Heap}
/-! ### read_script, of anything -/
def spRead (C : Addr) : Sp := fun vs H Q E => ∃ (m : Nat) (v : V) (d : PyData), vs = [v] ∧ Rep H m v d ∧ (∀ t, d = .str t → t.length ≤ 900000) ∧
  (∀ t ds, d = .str t → readD t = some ds → ∀ (a : Addr) (m : Nat) (H' : Hp), Same H H' → Rep H' m (.ref a) (.tuple ds) → Q (.ref a) H') ∧
  ((∀ t ds, d = .str t → readD t ≠ some ds) → ∀ (x : Addr) (H' : Hp), Same H H' → H x = none → H' x = some (.xd [("row", .int 0)]) → E (.ref C) (some x) H')
abbrev sRead : Stmt := top 42
theorem scRead : FnScope ["text", "script"] ["text"] (defScope sRead) := ⟨rfl, rfl, rfl, by decide +kernel, rfl, by decide +kernel, by decide +kernel⟩
theorem ok_read {f fN fI fS C fX : Addr} {fd dN dI dS dX : FuncData} (F : Fun K "read_script" "read_script" sRead f fd) (X : NTx P w K mg pB C fX dX)
    (GN : FnOk P w K mg pB (CX P w) 3 fN dN ["signs"] (spNest C)) (mN : mg "nested" = some (.ref fN)) (kN : PySem.W.keepIn K (.ref fN) = true) (bN : Binds K dN ["signs"] [])
    (GI : FnOk P w K mg pB CX0 21 fI dI ["thing"] (spTest isS)) (mI : mg "is_script" = some (.ref fI)) (kI : PySem.W.keepIn K (.ref fI) = true) (bI : Binds K dI ["thing"] [])
    (GS : FnOk P w K mg pB CX0 24 fS dS ["script"] (spShS 4)) (mS : mg "show_script" = some (.ref fS)) (kS : PySem.W.keepIn K (.ref fS) = true) (bS : Binds K dS ["script"] [])
    (mIs : mg "isinstance" = none) (mSt : mg "str" = none) : FnOk P w K mg pB (CX P w) 25 f fd ["text"] (spRead C) := by
  refine F.okX scRead (fun vs H Q E h => ?_) (fun cdv A outer s H vs Q E hr h => ?_)
  · obtain ⟨m, v, d, rfl, _⟩ := h
    rfl
  · obtain ⟨m, v, d, rfl, hR, hlen, k, kx⟩ := h
    have nd := scRead.nd
    have hr2 : Room 2 _ := hr.mono (by decide)
    have hr3 : Room 3 _ := hr.mono (by decide)
    have hr21 : Room 21 _ := hr.mono (by decide)
    refine ⟨_, pss_cons (ps_if (pt_not (pt_val (pe_callB call_isi (by rfl) mIs (by decide +kernel) (pa_cons (pv 0) (pa_cons (pe_bltn (by rfl) mSt (by decide +kernel) (show RelV (.ty "str") (.type "str") from rfl)) pa_nil)))))
        (pss_one (ps_raise rfl (takes_of rfl rfl rfl rfl) (pmk_oex X.T X.iC X.tI X.G hr2 X.b .nil pass0 (by rfl) X.m (pa_cons pe_int pa_nil)))) pss_nil)
      (pss_cons (ps_set (i := 1) nd rfl (Or.inl rfl) (pe_ifExp (pt_cmpR op_eq (pv 0) pe_str (nomark _)) (pe_tup pa_nil)
        (pe_callS GN hr3 rfl mN kN bN (fun σ => passAt (takes_of rfl rfl rfl rfl) σ) (pa_cons (pe_bm PySem.F.plainAttrs_str PySem.F.slot_str_split PySem.F.type_str_split mt_split (pv 0) (pa_cons pe_str pa_nil)) pa_nil))))
      (pss_cons (ps_if (PW.pt (pw_or (pt_not (pt_val (pe_call GI hr21 rfl mI kI bI .nil pass0 (pa_cons (pv 1) pa_nil))))
          (pw_or1 (pt_cmpR op_ne (pe_call GS hr rfl mS kS bS .nil pass0 (pa_cons (pv 1) pa_nil)) (pv 0) (nomark _)))))
          (pss_one (ps_raise rfl (takes_of rfl rfl rfl rfl) (pmk_oex X.T X.iC X.tI X.G hr2 X.b .nil pass0 (by rfl) X.m (pa_cons pe_int pa_nil)))) pss_nil)
      (pss_one (ps_ret (pv 1))))), ?_⟩
    refine rd_isi (.inl rfl) rfl hR ⟨_, rfl, ?_⟩
    by_cases hst : ∃ t, d = .str t
    case neg =>
      refine iteB1 (by cases d <;> first | rfl | exact absurd ⟨_, rfl⟩ hst) ⟨by show 1 ≤ 1000; decide, rd_nt fun x H9 s9 hd hx => ?_⟩
      exact kx (fun t ds e => absurd ⟨t, e⟩ hst) x H9 s9 hd hx
    obtain ⟨t, rfl⟩ := hst
    cases rep_str hR
    have hlt := hlen t rfl
    refine iteB0 rfl (nxt_of (asg_n ?_))
    -- the end, for what was read
    have fin : ∀ (ds : List PyData) (a : Addr) (m : Nat) (H2 : Hp), Same H H2 → Rep H2 m (.ref a) (.tuple ds) → szD (.tuple ds) ≤ 1000000 → readD t = (if isS (.tuple ds) = true ∧ shS 5 (.tuple ds) = t then some ds else none) →
        tSeq (tIfS (tOr (tNot (tB (tCall (spTest isS) [] E0 (tCons (tVar 1) tNil)))) (tTest (tOp rNe (tCall (spShS 4) [] E0 (tCons (tVar 1) tNil)) (tVar 0)))) (fun _ σ H => tMkO C (spNT C) [] (tCons (tC (.int 0)) tNil) σ H fun cls d H' => E cls d H') tNext) (tRet (tVar 1)) { nx := fun _ H' => Q .non H', rt := Q } [some (.str t), some (.ref a)] H2 := by
      intro ds a m H2 s2 hR2 hz hrd
      refine ⟨_, rfl, m, .ref a, .tuple ds, rfl, hR2, hz, fun H8 s8 => ⟨_, rfl, ?_⟩⟩
      cases hS : isS (.tuple ds) with
      | false =>
        refine iteB1 rfl (iteT ⟨by show 1 ≤ 1000; decide, rd_nt fun x H9 s9 hd hx => ?_⟩)
        refine kx (fun t' ds' e e' => ?_) x H9 ((s2.trans s8).trans s9) (fresh_of (s2.trans s8) hd) hx
        cases e
        rw [hrd, if_neg (fun z => by rw [hS] at z; cases z.1)] at e'
        cases e'
      | true =>
        obtain ⟨c, hc, hc2⟩ := isS_cnt hS
        refine iteB0 rfl ⟨_, rfl, m, .ref a, .tuple ds, c, rfl, hR2.same s8, hc, by omega, hz, fun H9 s9 => ⟨_, rfl, rfl, _, rfl, ?_⟩⟩
        have s29 := s2.trans (s8.trans s9)
        by_cases ht : shS 5 (.tuple ds) = t
        · refine iteB0 (by rw [ht]; simp) (nxt_r ⟨_, rfl, ?_⟩)
          exact k t ds rfl (by rw [hrd, if_pos ⟨hS, ht⟩]) a m H9 s29 (hR2.same (s8.trans s9))
        · refine iteB1 (by simp [ht]) ⟨by show 1 ≤ 1000; decide, rd_nt fun x HA sA hd hx => ?_⟩
          refine kx (fun t' ds' e e' => ?_) x HA (s29.trans sA) (fresh_of s29 hd) hx
          cases e
          rw [hrd, if_neg (fun z => ht z.2)] at e'
          cases e'
    by_cases h0 : t = ""
    · subst h0
      refine ⟨_, rfl, rfl, _, rfl, iteB1 (by decide +kernel) ⟨Nat.zero_le _, fun tt htt => ?_⟩⟩
      have s1 : Same H (upd H tt (.tup [])) := Same.new (Same.refl _) htt
      have hR1 : Rep (upd H tt (.tup [])) 1 (.ref tt) (.tuple []) := ⟨tt, [], rfl, upd_same, .nil⟩
      exact fin [] tt 1 _ s1 hR1 (by decide +kernel) (by unfold readD; rw [if_pos rfl, if_pos ⟨by decide +kernel, by decide +kernel⟩])
    · obtain ⟨hne, htot⟩ := split_tot h0
      obtain ⟨hl1, hl2⟩ := tot_len (Txt.split t " ")
      refine ⟨_, rfl, rfl, _, rfl, iteB0 (decide_eq_false fun z => h0 (V.str.inj z)) ⟨_, rfl, rfl, t, " ", rfl, rfl, by decide +kernel, by rw [sizeLine_eq]; omega, fun q hq => ?_⟩⟩
      have s1 : Same H (upd H q (.lst ((Txt.split t " ").map V.str))) := Same.new (Same.refl _) hq
      have c1 : (upd H q (.lst ((Txt.split t " ").map V.str))) q = some (.lst ((Txt.split t " ").map V.str)) := upd_same
      generalize upd H q (.lst ((Txt.split t " ").map V.str)) = H1 at s1 c1 ⊢
      refine ⟨q, Txt.split t " ", rfl, c1, by omega, fun x hx => by have := hl2 x hx; omega, fun ds hds a m H2 s2 hR2 => ?_, fun hno x H2 s2 hd hx => ?_⟩
      · have hsz := wrun_sz hds
        have hz : szD (.tuple ds) ≤ 1000000 := by
          have h1 : szL ds + 0 ≤ szL [] + 0 + tot (Txt.split t " ") := hsz
          rw [szL] at h1
          rw [szD]; omega
        refine fin ds a m H2 (s1.trans s2) hR2 hz ?_
        unfold readD
        rw [if_neg h0, hds]
      · refine kx (fun t' ds' e e' => ?_) x H2 (s1.trans s2) (fresh_of s1 hd) hx
        cases e
        unfold readD at e'
        rw [if_neg h0] at e'
        split at e'
        · rename_i ds'' e2
          exact hno ds'' e2
        · cases e'
end
end My

set_option Elab.async false
set_option linter.all false
set_option maxRecDepth 100000
set_option maxHeartbeats 4000000
namespace My
open PySem L2
/-! ### the law's own pile, in the heap -/
structure Pil (H0 H : Hp) (i : Nat) (A E : Addr) (ps : List Addr) (fs : List (List PyData)) (es : List Str) : Prop where
  sm : Same H0 H
  a0 : H0 A = none
  aL : H A = some (.lst (ps.reverse.map V.ref))
  e0 : H0 E = none
  eL : H E = some (.lst (es.reverse.map V.str))
  fr : Paired (Frm H0 H i) ps fs
  al : ps.length ≤ i + 1
  nA : A ∉ ps
  nE : E ∉ ps
  nAE : A ≠ E
  nP : ps.Nodup
theorem Pil.same {H0 H H' : Hp} {i : Nat} {A E : Addr} {ps : List Addr} {fs : List (List PyData)} {es : List Str} (h : Pil H0 H i A E ps fs es) (s : Same H H') : Pil H0 H' i A E ps fs es :=
  ⟨h.sm.trans s, h.a0, s _ _ h.aL, h.e0, s _ _ h.eL, mapF (q := A) h.fr fun p _ ds f => f.same s (Nat.le_refl _), h.al, h.nA, h.nE, h.nAE, h.nP⟩
theorem Pil.push {H0 H : Hp} {i : Nat} {A E J : Addr} {ps : List Addr} {fs : List (List PyData)} {es : List Str} (h : Pil H0 H i A E ps fs es) (hJ : H J = none) :
    Pil H0 (upd (upd H J (.lst [])) A (.lst (ps.reverse.map V.ref ++ [.ref J]))) (i + 1) A E (J :: ps) ([] :: fs) es := by
  have s1 : Same H (upd H J (.lst [])) := Same.new (Same.refl _) hJ
  have h1 := h.same s1
  have cJ : (upd H J (.lst [])) J = some (.lst []) := upd_same
  have nJ : ∀ {b : Addr} {o : HO}, H b = some o → b ≠ J := fun e => ne_of_none e hJ
  have hJ0 : H0 J = none := none_of h.sm hJ
  have nps : J ∉ ps := fun z => by
    obtain ⟨vs, e⟩ := mem_ps h.fr z
    exact nJ e rfl
  generalize upd H J (.lst []) = H1 at s1 h1 cJ ⊢
  have k2 : Kp A H1 (upd H1 A (.lst (ps.reverse.map V.ref ++ [.ref J]))) := upd_kp
  have c2 : (upd H1 A (.lst (ps.reverse.map V.ref ++ [.ref J]))) A = some (.lst ((J :: ps).reverse.map V.ref)) := by
    rw [upd_same, List.reverse_cons, List.map_append]; rfl
  have nJA : J ≠ A := Ne.symm (nJ h.aL)
  refine ⟨same_new h1.sm h.a0, h.a0, c2, h.e0, k2 _ _ h1.eL (Ne.symm h.nAE), .cons ?_ (mapF (q := A) h1.fr fun p hp ds f => f.keep k2 h1.aL c2 (fun z => h.nA (z ▸ hp)) (Nat.le_succ _)), by rw [List.length_cons]; have := h.al; omega, ?_, ?_, h.nAE, List.nodup_cons.mpr ⟨nps, h.nP⟩⟩
  · exact ⟨hJ0, [], k2 _ _ cJ nJA, Nat.zero_le _, .nil⟩
  · intro z
    rcases List.mem_cons.mp z with z | z
    · exact nJA z.symm
    · exact h.nA z
  · intro z
    rcases List.mem_cons.mp z with z | z
    · exact nJ h.eL z
    · exact h.nE z
theorem Pil.ends {H0 H : Hp} {i : Nat} {A E : Addr} {ps : List Addr} {fs : List (List PyData)} {es es' : List Str} (h : Pil H0 H i A E ps fs es) : Pil H0 (upd H E (.lst (es'.reverse.map V.str))) i A E ps fs es' := by
  have k2 : Kp E H (upd H E (.lst (es'.reverse.map V.str))) := upd_kp
  have c2 : (upd H E (.lst (es'.reverse.map V.str))) E = some (.lst (es'.reverse.map V.str)) := upd_same
  exact ⟨same_new h.sm h.e0, h.a0, k2 _ _ h.aL h.nAE, h.e0, c2, mapF (q := A) h.fr fun p hp ds f => f.keep k2 h.eL c2 (fun z => h.nE (z ▸ hp)) (Nat.le_refl _), h.al, h.nA, h.nE, h.nAE, h.nP⟩
theorem Pil.pop {H0 H : Hp} {i : Nat} {A E I : Addr} {ps : List Addr} {inn : List PyData} {fs : List (List PyData)} {es : List Str} (h : Pil H0 H i A E (I :: ps) (inn :: fs) es) :
    Pil H0 (upd H A (.lst (((I :: ps).reverse.map V.ref).dropLast))) i A E ps fs es ∧ Frm H0 (upd H A (.lst (((I :: ps).reverse.map V.ref).dropLast))) i I inn := by
  have ed : ((I :: ps).reverse.map V.ref).dropLast = ps.reverse.map V.ref := by
    rw [List.reverse_cons, List.map_append]
    exact List.dropLast_concat
  rw [ed]
  have k2 : Kp A H (upd H A (.lst (ps.reverse.map V.ref))) := upd_kp
  have c2 : (upd H A (.lst (ps.reverse.map V.ref))) A = some (.lst (ps.reverse.map V.ref)) := upd_same
  have ⟨f1, f2⟩ : Frm H0 H i I inn ∧ Paired (Frm H0 H i) ps fs := by cases h.fr with | cons r t => exact ⟨r, t⟩
  have nA := h.nA
  have nE := h.nE
  rw [List.mem_cons, not_or] at nA nE
  refine ⟨⟨same_new h.sm h.a0, h.a0, c2, h.e0, k2 _ _ h.eL (Ne.symm h.nAE), mapF (q := A) f2 fun p hp ds f => f.keep k2 h.aL c2 (fun z => nA.2 (z ▸ hp)) (Nat.le_refl _), by have := h.al; rw [List.length_cons] at this; omega, nA.2, nE.2, h.nAE, (List.nodup_cons.mp h.nP).2⟩, f1.keep k2 h.aL c2 (Ne.symm nA.1) (Nat.le_refl _)⟩
theorem Pil.app {H0 H : Hp} {i : Nat} {A E p : Addr} {ps : List Addr} {top : List PyData} {fs : List (List PyData)} {es : List Str} {us : List V} {v : V} {d : PyData} (h : Pil H0 H i A E (p :: ps) (top :: fs) es) (hp : H p = some (.lst us)) (hv : Rep H (i + 1) v d) :
    Pil H0 (upd H p (.lst (us ++ [v]))) (i + 1) A E (p :: ps) ((top ++ [d]) :: fs) es := by
  have ⟨f1, f2⟩ : Frm H0 H i p top ∧ Paired (Frm H0 H i) ps fs := by cases h.fr with | cons r t => exact ⟨r, t⟩
  obtain ⟨h0, us', hp', hl, hP⟩ := f1
  rw [hp] at hp'
  cases hp'
  have k1 : Kp p H (upd H p (.lst (us ++ [v]))) := upd_kp
  have c1 : (upd H p (.lst (us ++ [v]))) p = some (.lst (us ++ [v])) := upd_same
  have nA := h.nA
  have nE := h.nE
  rw [List.mem_cons, not_or] at nA nE
  have nps : p ∉ ps := (List.nodup_cons.mp h.nP).1
  refine ⟨same_new h.sm h0, h.a0, k1 _ _ h.aL nA.1, h.e0, k1 _ _ h.eL nE.1, .cons ⟨h0, _, c1, by rw [List.length_append]; show _ + 1 ≤ _; omega, ?_⟩ (mapF (q := p) f2 fun q hq ds f => f.keep k1 hp c1 (fun z => nps (z ▸ hq)) (Nat.le_succ _)), by have := h.al; omega, h.nA, h.nE, h.nAE, h.nP⟩
  exact Paired.snoc (Paired.mapP hP fun _ _ z => (z.grown k1 hp c1).mono (Nat.le_succ _)) (hv.grown k1 hp c1)
end My

set_option Elab.async false
set_option linter.all false
set_option maxRecDepth 100000
set_option maxHeartbeats 4000000
namespace My
open PySem L2
/-! ### the law's own look at a word -/
def digs : List Nat := (Str.ofString "0123456789").cps.toList
def figA (x : Str) : Str := if cutS x none (some 1) = "-" then cutS x (some 1) none else x
def isFigA (x : Str) : Bool := !decide (figA x = "") && (decide ((figA x).length < 12) && (figA x).cps.toList.all fun c => decide (c ∈ digs))
def atomD (x : Str) : PyData := if isFigA x = true then (match intText? x with | some n => .int n | none => .str x) else if x = "-" then .none else .str x
theorem digs_is : ∀ c ∈ digs, 48 ≤ c ∧ c ≤ 57 := by decide +kernel
theorem digs_all : ∀ c, c < 58 → 48 ≤ c → c ∈ digs := by decide +kernel
theorem cut1 {x : Str} {c : Nat} {cs : List Nat} (h : x.cps.toList = c :: cs) : cutS x none (some 1) = ⟨#[c]⟩ ∧ cutS x (some 1) none = ⟨cs.toArray⟩ := by
  have hl : x.length = cs.length + 1 := by rw [TL.len_tl, show TL.tl x = c :: cs from h]; rfl
  have e1 : HT.sIx x.length x.length (some 1) = 1 := (HT.sIx_nat _ _ 1).trans (by omega)
  have e2 : HT.sIx x.length 0 (some 1) = 1 := (HT.sIx_nat _ _ 1).trans (by omega)
  unfold cutS
  rw [HT.sIx_none, HT.sIx_none, e1, e2, h]
  refine ⟨rfl, ?_⟩
  rw [List.drop_succ_cons, List.drop_zero, List.take_of_length_le (by omega)]
theorem figA_is (x : Str) : figA x = figs x := by
  unfold figA figs
  cases hx : x.cps.toList with
  | nil =>
    have ex : x = "" := TL.ext_tl ((show TL.tl x = [] from hx).trans (by decide +kernel))
    subst ex
    decide +kernel
  | cons c cs =>
    obtain ⟨c1, c2⟩ := cut1 hx
    rw [c1, c2]
    by_cases hc : c = 45
    · subst hc
      rw [if_pos (by decide +kernel), rp_neg hx]
    · rw [if_neg, rp_no hx hc]
      intro z
      have := congrArg (fun s : Str => s.cps.toList) z
      have e2 : (Str.ofString "-").cps.toList = [45] := by decide +kernel
      simp only [e2] at this
      exact hc (List.cons.inj this).1
theorem figA_int {x : Str} (h : isFigA x = true) : ∃ n, intText? x = some n ∧ x.length ≤ 12 := by
  unfold isFigA at h
  rw [figA_is, Bool.and_eq_true, Bool.and_eq_true, List.all_eq_true, decide_eq_true_eq] at h
  obtain ⟨h1, h2, h3⟩ := h
  have d1 : ∀ c ∈ (figs x).cps.toList, 48 ≤ c ∧ c ≤ 57 := fun c hc => digs_is c (of_decide_eq_true (h3 c hc))
  have d2 : (figs x).cps.toList ≠ [] := fun z => by
    have : figs x = "" := TL.ext_tl ((show TL.tl (figs x) = [] from z).trans (by decide +kernel))
    rw [this] at h1
    exact absurd h1 (by decide +kernel)
  cases hx : x.cps.toList with
  | nil =>
    have ex : x = "" := TL.ext_tl ((show TL.tl x = [] from hx).trans (by decide +kernel))
    subst ex
    exact absurd d2 (by decide +kernel)
  | cons c cs =>
    have hlen : x.length = cs.length + 1 := by rw [TL.len_tl, show TL.tl x = c :: cs from hx]; rfl
    by_cases hc : c = 45
    · subst hc
      have e := rp_neg hx
      unfold figs at h2 d1 d2
      rw [e] at h2 d1 d2
      have h2 : cs.toArray.size < 12 := h2
      rw [List.size_toArray] at h2
      have d1 : ∀ c ∈ cs.toArray.toList, 48 ≤ c ∧ c ≤ 57 := d1
      have d2 : cs.toArray.toList ≠ [] := d2
      rw [List.toList_toArray] at d1 d2
      exact ⟨_, intText_neg hx d1 d2 (by omega), by omega⟩
    · have e := rp_no hx hc
      unfold figs at h2 d1 d2
      rw [e] at h2 d1 d2
      exact ⟨_, intText_digits d1 d2 (by omega), by omega⟩
theorem atom_rep (x : Str) (H : Hp) (i : Nat) : Rep H i (leafV (atomD x)) (atomD x) := by
  unfold atomD
  split
  · split <;> (cases i <;> rfl)
  · split <;> (cases i <;> rfl)
theorem atom_sz (x : Str) : szD (atomD x) ≤ 1 + x.length := by
  unfold atomD
  split
  · split
    · show 1 ≤ _; omega
    · rw [szD]; omega
  · split
    · show 1 ≤ _; omega
    · rw [szD]; omega
theorem atom_leaf {d : PyData} (h : leafW d = true) : atomD (leafT d) = d := by
  rcases leaf_facts h with rfl | ⟨x, g, ex, eg, hx, hg, hne, ha⟩
  · unfold atomD
    rw [if_neg (by decide +kernel), if_pos (show leafT .none = "-" from rfl)]
  · rw [ex]
    have hnd : x ≠ "-" := fun z => by rw [z] at hne; exact absurd hne (by decide +kernel)
    have eA : figA x = g := (figA_is x).trans eg
    unfold atomD
    rcases ha with ⟨d1, d2, n, e1, e2⟩ | ⟨d2, e2⟩
    · obtain ⟨q1, q2⟩ := dig_all d1 d2
      have hf : isFigA x = true := by
        unfold isFigA
        rw [eA, decide_eq_false (fun z => q2 (by rw [z]; decide +kernel)), decide_eq_true (by omega : g.length < 12)]
        show (_ && (_ && _)) = true
        rw [List.all_eq_true.mpr fun c hc => decide_eq_true (digs_all c (by have := q1 c hc; omega) (q1 c hc).1)]
        rfl
      rw [if_pos hf, e1]
      cases d <;> first | (cases e2; done) | (cases e2; rfl) | cases h
    · have hf : isFigA x = false := by
        cases hh : isFigA x with
        | false => rfl
        | true =>
          unfold isFigA at hh
          rw [eA, Bool.and_eq_true, Bool.and_eq_true, List.all_eq_true, Bool.not_eq_true'] at hh
          obtain ⟨h1, h2, h3⟩ := hh
          have hl : g.cps.toList ≠ [] := fun z => (of_decide_eq_false h1) (TL.ext_tl ((show TL.tl g = [] from z).trans (by decide +kernel)))
          have := (dig_of (l := g.cps.toList) (fun c hc => digs_is c (of_decide_eq_true (h3 c hc))) hl).2
          rw [show (⟨g.cps.toList.toArray⟩ : Str) = g by cases g; simp] at this
          rw [d2] at this
          cases this
      rw [if_neg (by rw [hf]; decide), if_neg hnd]
      cases d <;> first | (cases e2; done) | (cases e2; rfl) | cases h
/-! ### the law's machine -/
def endOf (x : Str) : Str := if x = "(" then ")" else if x = "[" then "]" else ">"
abbrev Lst := List (List PyData) × List Str
def lstep (s : Lst) (x : Str) : Option Lst :=
  if opB x = true then some ([] :: s.1, endOf x :: s.2)
  else if clB x = true then (match s.2, s.1 with | e :: es, inn :: top :: fs => (if e = x then some ((top ++ [.tuple inn]) :: fs, es) else none) | _, _ => none)
  else (match s.1 with | inn :: fs => some ((inn ++ [atomD x]) :: fs, s.2) | [] => none)
def lrun : Lst → List Str → Option Lst
  | s, [] => some s
  | s, x :: xs => (lstep s x).bind fun z => lrun z xs
theorem lrun_app : ∀ (a b : List Str) (s : Lst), lrun s (a ++ b) = (lrun s a).bind fun z => lrun z b
  | [], _, _ => rfl
  | g :: a, b, s => by
    show (lstep s g).bind (fun z => lrun z (a ++ b)) = ((lstep s g).bind fun z => lrun z a).bind fun z => lrun z b
    cases lstep s g with
    | none => rfl
    | some z => exact lrun_app a b z
theorem lrun_next {ws : List Str} {s z : Lst} {i : Nat} {x : Str} (hz : lrun s (ws.take i) = some z) (hx : ws[i]? = some x) : lrun s (ws.take (i + 1)) = lstep z x := by
  rw [take_snoc hx, lrun_app, hz]
  show (lstep z x).bind (fun z => some z) = _
  cases lstep z x <;> rfl
theorem lrun_stop {ws : List Str} {s z : Lst} {i : Nat} {x : Str} (hz : lrun s (ws.take i) = some z) (hx : ws[i]? = some x) (h : lstep z x = none) : lrun s ws = none := by
  have h' := lrun_next hz hx
  rw [h] at h'
  rw [← List.take_append_drop (i + 1) ws, lrun_app, h']
  rfl
def lZ (s : Lst) : Nat := (s.1.map fun l => 1 + szL l).sum
theorem lstep_sz {s z : Lst} {x : Str} (h : lstep s x = some z) : lZ z ≤ lZ s + (1 + x.length) := by
  obtain ⟨fs, es⟩ := s
  unfold lstep at h
  by_cases h1 : opB x = true
  · rw [if_pos h1] at h
    cases h
    show (([] :: fs).map fun l => 1 + szL l).sum ≤ (fs.map fun l => 1 + szL l).sum + _
    rw [List.map_cons, List.sum_cons, szL]; omega
  · rw [if_neg h1] at h
    by_cases h2 : clB x = true
    · rw [if_pos h2] at h
      cases es with
      | nil => cases h
      | cons e es =>
        cases fs with
        | nil => cases h
        | cons inn fs =>
          cases fs with
          | nil => cases h
          | cons top fs =>
            have h : (if e = x then some ((top ++ [PyData.tuple inn]) :: fs, es) else none) = some z := h
            by_cases he : e = x
            · rw [if_pos he] at h
              cases h
              show (((top ++ [PyData.tuple inn]) :: fs).map fun l => 1 + szL l).sum ≤ ((inn :: top :: fs).map fun l => 1 + szL l).sum + _
              rw [List.map_cons, List.sum_cons, List.map_cons, List.map_cons, List.sum_cons, List.sum_cons, szL_app, szL, szL, szD]; omega
            · rw [if_neg he] at h; cases h
    · rw [if_neg h2] at h
      cases fs with
      | nil => cases h
      | cons inn fs =>
        cases h
        have := atom_sz x
        show (((inn ++ [atomD x]) :: fs).map fun l => 1 + szL l).sum ≤ ((inn :: fs).map fun l => 1 + szL l).sum + _
        rw [List.map_cons, List.sum_cons, List.map_cons, List.sum_cons, szL_app, szL, szL]; omega
theorem lrun_sz : ∀ {ws : List Str} {s z : Lst}, lrun s ws = some z → lZ z ≤ lZ s + tot ws
  | [], s, z, h => by cases h; rw [tot_nil]; omega
  | x :: ws, s, z, h => by
    have h : (lstep s x).bind (fun z => lrun z ws) = some z := h
    cases e : lstep s x with
    | none => rw [e] at h; cases h
    | some y =>
      rw [e] at h
      have h1 := lstep_sz e
      have h2 := lrun_sz (show lrun y ws = some z from h)
      rw [tot_cons]; omega
/-! its way over a script's own signs -/
def LG (d : PyData) (gs : List Sg) : Prop := ∀ fs inn es, lrun (inn :: fs, es) (gs.map Sg.tx) = some ((inn ++ [d]) :: fs, es)
inductive LGs : List PyData → List (List Sg) → Prop
  | nil : LGs [] []
  | cons {d g ds gs} : LG d g → LGs ds gs → LGs (d :: ds) (g :: gs)
theorem LGs.run {ds gs} (h : LGs ds gs) : ∀ fs inn es, lrun (inn :: fs, es) (gs.flatten.map Sg.tx) = some ((inn ++ ds) :: fs, es) := by
  induction h with
  | nil => intro fs inn es; rw [List.append_nil]; rfl
  | cons a _ ih =>
    intro fs inn es
    rw [List.flatten_cons, List.map_append, lrun_app, a]
    show lrun _ _ = _
    rw [ih, List.append_assoc]; rfl
theorem LGs.between {ds gs} (h : LGs ds gs) {o c : Str} (ho : (o = "(" ∧ c = ")") ∨ (o = "[" ∧ c = "]") ∨ (o = "<" ∧ c = ">")) : LG (.tuple ds) (.op o :: (gs.flatten ++ [.cl c])) := by
  have e1 : opB o = true ∧ endOf o = c ∧ opB c = false ∧ clB c = true := by
    rcases ho with ⟨rfl, rfl⟩ | ⟨rfl, rfl⟩ | ⟨rfl, rfl⟩ <;> decide +kernel
  obtain ⟨q1, q2, q3, q4⟩ := e1
  intro fs inn es
  rw [List.map_cons, List.map_append]
  show (lstep (inn :: fs, es) o).bind (fun z => lrun z _) = _
  have e0 : lstep (inn :: fs, es) o = some ([] :: inn :: fs, c :: es) := by
    unfold lstep
    rw [if_pos q1, q2]
  rw [e0]
  show lrun ([] :: inn :: fs, c :: es) _ = _
  rw [lrun_app, h.run]
  show (lstep (([] ++ ds) :: inn :: fs, c :: es) c).bind (fun z => some z) = _
  have e9 : lstep (([] ++ ds) :: inn :: fs, c :: es) c = some ((inn ++ [.tuple ds]) :: fs, es) := by
    unfold lstep
    rw [if_neg (by rw [q3]; decide), if_pos q4]
    exact if_pos rfl
  rw [e9]; rfl
theorem lg_leaf {d : PyData} (h : leafW d = true) : LG d [.lf d] := by
  intro fs inn es
  have o1 := in_op (g := .lf d) h
  have o2 := in_cl (g := .lf d) h
  show (lstep (inn :: fs, es) (leafT d)).bind (fun z => some z) = _
  have e0 : lstep (inn :: fs, es) (leafT d) = some ((inn ++ [d]) :: fs, es) := by
    unfold lstep opB clB
    rw [show inV (.str (leafT d)) opL = false from o1, show inV (.str (leafT d)) clL = false from o2]
    show some ((inn ++ [atomD (leafT d)]) :: fs, es) = _
    rw [atom_leaf h]
  rw [e0]; rfl
theorem lgs_map {f : PyData → List Sg} : ∀ (ds : List PyData), (∀ d ∈ ds, LG d (f d)) → LGs ds (ds.map f)
  | [], _ => .nil
  | d :: ds, h => .cons (h d (List.mem_cons_self ..)) (lgs_map ds fun z hz => h z (List.mem_cons_of_mem _ hz))
theorem lg_w : ∀ (n : Nat) (d : PyData), isW n d = true → LG d (gW n d)
  | 0, d, h => by
    have nd : ∀ ds, d ≠ .tuple ds := fun ds z => by rw [z] at h; exact absurd h (by simp [isW])
    rw [gW_leaf nd]
    rw [isW_leaf nd] at h
    exact lg_leaf h
  | n + 1, d, h => by
    rcases @notTup d with ⟨ds, rfl⟩ | nd
    · obtain ⟨m, em, _, kd⟩ := isW_tup h
      cases em
      rw [gW]
      exact (lgs_map ds fun e he => lg_w n e (kd e he)).between (.inr (.inr ⟨rfl, rfl⟩))
    · rw [gW_leaf nd]
      rw [isW_leaf nd] at h
      exact lg_leaf h
def LSOk (n : Nat) : Prop := ∀ ds c, cnt n (.tuple ds) = some c → ∃ gs, gScr n (.tuple ds) = List.flatten gs ∧ LGs ds gs
theorem lg_part {n : Nat} (S : LSOk n) {k : Kd} {d : PyData} {c : Nat} (h : partB (cnt n) k d = some c) : LG d (gPart (gScr n) k d) := by
  unfold gPart
  unfold partB at h
  by_cases hk : isScr k = true ∧ isNon d = false
  · rw [if_pos hk]
    rw [if_pos hk.1, if_neg (fun z => by rw [hk.2] at z; cases z.2)] at h
    obtain ⟨ds, rfl⟩ : ∃ ds, d = .tuple ds := by
      cases n with
      | zero => cases h
      | succ n => cases d <;> first | exact ⟨_, rfl⟩ | cases h
    obtain ⟨gs, e, G⟩ := S ds c h
    rw [e]
    exact G.between (.inr (.inl ⟨rfl, rfl⟩))
  · rw [if_neg hk]
    refine lg_w 4 d ?_
    by_cases hs : isScr k = true
    · have hn : isNon d = true := by
        cases hn : isNon d with
        | true => rfl
        | false => exact absurd ⟨hs, hn⟩ hk
      have : d = .none := by cases d <;> first | rfl | cases hn
      rw [this]; rfl
    · rw [if_neg hs] at h
      by_cases ho : partOk k d = true
      · exact part_isW ho
      · rw [if_neg ho] at h; cases h
theorem lg_zip {n : Nat} (S : LSOk n) : ∀ (ks : List Kd) (ps : List PyData) (c : Nat), ps.length = ks.length → sumO (List.zipWith (partB (cnt n)) ks ps) = some c → LGs ps (List.zipWith (gPart (gScr n)) ks ps)
  | [], [], _, _, _ => .nil
  | [], _ :: _, _, h, _ => by cases h
  | _ :: _, [], _, h, _ => by cases h
  | k :: ks, p :: ps, c, hl, h => by
    rw [List.zipWith_cons_cons] at h
    cases hb : partB (cnt n) k p with
    | none => rw [hb] at h; cases h
    | some a =>
      rw [hb] at h
      obtain ⟨b, hb2, _⟩ := Option.map_eq_some_iff.mp (show (sumO (List.zipWith (partB (cnt n)) ks ps)).map (a + ·) = some c from h)
      exact .cons (lg_part S hb) (lg_zip S ks ps b (by simpa using hl) hb2)
theorem lg_deed {n : Nat} (S : LSOk n) {d : PyData} {c : Nat} (h : deedB (cnt n) d = some c) : LG d (gDeed (gScr n) d) := by
  obtain ⟨x, ps, ks, rfl, hx, hl, hs⟩ := deedB_some h
  rw [gDeed_form hx]
  have G := LGs.cons (lg_leaf (form_word hx)) (lg_zip S ks ps c hl hs)
  exact G.between (.inl ⟨rfl, rfl⟩)
theorem lsok : ∀ n, LSOk n
  | 0, _, _, h => by cases h
  | n + 1, ds, c, h => by
    rw [cnt] at h
    obtain ⟨b, hb, _⟩ := Option.map_eq_some_iff.mp h
    obtain ⟨cs, ecs, _⟩ := sumO_some hb
    refine ⟨_, rfl, ?_⟩
    refine lgs_map ds fun e he => ?_
    have hm : deedB (cnt n) e ∈ ds.map (deedB (cnt n)) := List.mem_map_of_mem he
    rw [ecs] at hm
    obtain ⟨g, _, hg⟩ := List.mem_map.mp hm
    exact lg_deed (lsok n) hg.symm
/-- what the law reads of a text that is a script's -/
theorem lrun_own {t : Str} {ds : List PyData} (h : readD t = some ds) (h0 : t ≠ "") : lrun ([[]], []) (Txt.split t " ") = some ([ds], []) := by
  obtain ⟨hS, ht⟩ := read_is h
  obtain ⟨c, hc, _⟩ := isS_cnt hS
  obtain ⟨hok, _, htx⟩ := scr_all hc
  have hg : gScr 5 (.tuple ds) ≠ [] := fun z => by
    rw [z] at htx
    exact h0 (ht.symm.trans (htx.symm.trans (by decide +kernel)))
  have esp : Txt.split t " " = (gScr 5 (.tuple ds)).map Sg.tx := by rw [← ht, ← htx]; exact split_back hok hg
  obtain ⟨gs, e, G⟩ := lsok 5 ds c hc
  rw [esp, e, G.run]
  rfl
end My

set_option Elab.async false
set_option linter.all false
set_option maxRecDepth 100000
set_option maxHeartbeats 4000000
namespace My
open PySem L2
theorem none_outD (l : List Nat) : ((l.filter fun c => !decide (c ∈ digs)).map fun c => V.str ⟨#[c]⟩).isEmpty = l.all fun c => decide (c ∈ digs) := by
  induction l with
  | nil => rfl
  | cons c l ih =>
    by_cases h : c ∈ digs
    · rw [List.filter_cons_of_neg (by simp [h]), List.all_cons, ih]; simp [h]
    · rw [List.filter_cons_of_pos (by simp [h])]; simp [h]
theorem val_of {te : TE} {σ : L2.St} {H : Hp} {Q : VK} (v : V) (h1 : ∀ Q' : VK, Q' v H → te σ H Q') (h2 : Q v H) : te σ H Q := h1 Q h2
section
variable {P : Program} {w : World} {K : PySem.W.Frag} {mg : Str → Option Value} {pB : Heap}
def spAtom : Sp := fun vs H Q _ => ∃ x : Str, vs = [.str x] ∧ x.length ≤ 12000000 ∧ ∀ H', Same H H' → Q (leafV (atomD x)) H'
abbrev sAtom : Stmt := top 62
theorem scAtom : FnScope ["_law_word_here", "_law_figures", "_law_sign"] ["_law_word_here"] (defScope sAtom) := ⟨rfl, rfl, rfl, by decide +kernel, rfl, by decide +kernel, by decide +kernel⟩
theorem ok_atom {f : Addr} {fd : FuncData} (F : Fun K "_law_atom" "_law_atom" sAtom f fd) (mLen : mg "len" = none) (mInt : mg "int" = none) : FnOk P w K mg pB CX0 1 f fd ["_law_word_here"] spAtom := by
  refine F.ok scAtom (fun vs H Q E h => ?_) (fun cdv A outer s H vs Q E hr h => ?_)
  · obtain ⟨x, rfl, _⟩ := h
    rfl
  · obtain ⟨x, rfl, hx, k⟩ := h
    have nd := scAtom.nd
    refine ⟨_, pss_cons (ps_set (i := 1) nd rfl (Or.inl rfl) (pe_ifExp (pt_cmpR op_eq (pe_slice sl_str (pv 0) po_none (po_some pe_int)) pe_str (nomark _)) (pe_slice sl_str (pv 0) (po_some pe_int) po_none) (pv 0)))
      (pss_cons (ps_if (PW.pt (pw_and (pt_cmpR op_ne (pv 1) pe_str (nomark _)) (pw_and (pt_cmpR op_lt (pe_callB call_len_str (by rfl) mLen PySem.boot_len (pa_cons (pv 1) pa_nil)) pe_int (nomark _))
          (pw_and1 (pt_cmpR (op_eqL0 hr.units)
            (pe_lc (own := [("_law_sign", 2)]) (g := gName 2) (tt := tTest (tOp (fun x y H Q => ∃ (c : Nat) (z : Str), x = .str ⟨#[c]⟩ ∧ y = .str z ∧ Q (.bl (!decide (c ∈ z.cps.toList))) H) (tVar 2) (tC (.str "0123456789")))) (te := tVar 2) rfl nd (pi_str (pv 1))
              (blkOk_by (N := ["_law_word_here", "_law_figures", "_law_sign"]) (sc := defScope sAtom) (by decide +kernel)) (fun _ _ _ _ _ => pg_name (i := 2) nd rfl (Or.inl rfl) (Or.inr rfl)) (fun _ _ _ _ _ => pts_one (pt_cmpR op_notIn_sign (pv 2) pe_str rfl))
              (fun _ _ _ _ _ => pv 2)) (pe_lst pa_nil) (nomark _))))))
        (pss_one (ps_ret (pe_callTy call_int_str (by rfl) mInt (by decide +kernel) (pa_cons (pv 0) pa_nil)))) pss_nil)
      (pss_one (ps_ret (pe_ifExp (pt_cmpR op_eq (pv 0) pe_str (nomark _)) pe_non (pv 0))))), ?_⟩
    have h1 : x.length ≤ sizeLine := Nat.le_trans hx (by decide)
    -- behind the test
    have out : ∀ H', Same H H' → isFigA x = false → ∀ g : V, tRet (tIf (tTest (tOp rEq (tVar 0) (tC (.str "-")))) (tC .non) (tVar 0)) { nx := fun _ H' => Q .non H', rt := Q } [some (.str x), some g, none] H' := by
      intro H' s' e g
      have k' := k H' s'
      unfold atomD at k'
      rw [if_neg (by rw [e]; decide)] at k'
      refine ⟨_, rfl, rfl, _, rfl, ?_⟩
      by_cases hd : x = "-"
      · rw [if_pos hd] at k'
        exact iteB1 (decide_eq_true (by rw [hd])) k'
      · rw [if_neg hd] at k'
        exact iteB0 (decide_eq_false fun z => hd (V.str.inj z)) ⟨_, rfl, k'⟩
    have hgl : (figA x).length ≤ sizeLine := by
      refine Nat.le_trans ?_ h1
      unfold figA
      split
      · exact cutS_length x (some 1) none
      · exact Nat.le_refl _
    refine asg_n (val_of (.str (figA x)) (fun Q' hQ => ?_) ?_)
    · refine ⟨_, rfl, np_of ⟨_, rfl, x, rfl, h1, rfl, _, rfl, ?_⟩⟩
      unfold figA at hQ
      by_cases hc : cutS x none (some 1) = "-"
      · rw [if_pos hc] at hQ
        exact iteB1 (decide_eq_true (by rw [hc])) ⟨_, rfl, _, rfl, np_of ⟨x, rfl, h1, hQ⟩⟩
      · rw [if_neg hc] at hQ
        exact iteB0 (decide_eq_false fun z => hc (V.str.inj z)) ⟨_, rfl, hQ⟩
    generalize hg : figA x = g at hgl
    refine ⟨_, rfl, rfl, _, rfl, ?_⟩
    by_cases h0 : g = ""
    · refine iteB0 (by rw [h0]; decide +kernel) (iteF (nxt_r (out H (Same.refl _) ?_ _)))
      unfold isFigA
      rw [hg, h0]; rfl
    refine iteB1 (by show (!decide _) = true; rw [decide_eq_false fun z => h0 (V.str.inj z)]; rfl) ⟨_, rfl, g, rfl, hgl, _, _, rfl, rfl, _, rfl, ?_⟩
    by_cases hl : g.length < 12
    · refine iteB1 (decide_eq_true (by omega)) ⟨_, rfl, g, rfl, fun D hD => ?_⟩
      refine lc_str (fun i H' => Same H H' ∧ H' D = some (.lst ((((TL.tl g).take i).filter fun c => !decide (c ∈ digs)).map fun c => V.str ⟨#[c]⟩))) ⟨Same.new (Same.refl _) hD, upd_same⟩ (fun i c H' hc p => ?_) (fun H' p => ?_)
      · obtain ⟨p1, p2⟩ := p
        have hc' : (TL.tl g)[i]? = some c := by
          rw [← hc]; exact Array.getElem?_toList
        refine ⟨rfl, _, rfl, c, _, rfl, rfl, _, rfl, ?_⟩
        by_cases hin : c ∈ digs
        · refine iteB0 (by rw [show decide (c ∈ (Str.ofString "0123456789").cps.toList) = true from decide_eq_true hin]; rfl) ⟨p1, ?_⟩
          rw [p2, take_snoc hc', List.filter_append, List.filter_cons_of_neg (by simp [hin])]
          simp
        · refine iteB1 (by rw [show decide (c ∈ (Str.ofString "0123456789").cps.toList) = false from decide_eq_false hin]; rfl) ⟨_, rfl, _, p2, ?_, ?_⟩
          · rw [List.length_map]
            refine Nat.lt_of_le_of_lt (Nat.le_trans (List.length_filter_le _ _) (List.length_take_le' _ _)) ?_
            rw [← TL.len_tl]
            exact Nat.lt_of_lt_of_le hl (by decide)
          · refine ⟨fun b o e => ?_, ?_⟩
            · rw [upd_ne (ne_of_none e hD)]; exact p1 b o e
            · rw [upd_same, take_snoc hc', List.filter_append, List.filter_cons_of_pos (by simp [hin]), List.map_append]; rfl
      · obtain ⟨p1, p2⟩ := p
        have e1 : ((TL.tl g).take g.cps.size) = TL.tl g := List.take_of_length_le (by simp [TL.tl])
        rw [e1] at p2
        refine ⟨by show 0 ≤ sizeLine; decide, fun q hq => ?_⟩
        have s2 : Same H' (upd H' q (.lst [])) := Same.new (Same.refl _) hq
        refine ⟨D, q, _, rfl, rfl, SqL.of (s2 _ _ p2), SqL.of upd_same, _, rfl, ?_⟩
        rw [none_outD]
        have e2 : isFigA x = (TL.tl g).all fun c => decide (c ∈ digs) := by
          unfold isFigA
          rw [hg, decide_eq_false h0, decide_eq_true hl]; rfl
        cases hf : isFigA x with
        | false =>
          rw [hf] at e2
          exact iteB0 e2.symm (nxt_r (out _ (p1.trans s2) hf _))
        | true =>
          rw [hf] at e2
          obtain ⟨n, e3, e4⟩ := figA_int hf
          refine iteB1 e2.symm ⟨_, rfl, x, n, rfl, e3, Nat.le_trans e4 (by decide), ?_⟩
          have k' := k _ (p1.trans s2)
          unfold atomD at k'
          rw [if_pos hf, e3] at k'
          exact k'
    · refine iteB0 (decide_eq_false (by omega)) (iteF (nxt_r (out H (Same.refl _) ?_ _)))
      unfold isFigA
      rw [hg, decide_eq_false hl, Bool.false_and, Bool.and_false]
end
end My

set_option Elab.async false
set_option linter.all false
set_option maxRecDepth 100000
set_option maxHeartbeats 4000000
namespace My
open PySem L2
theorem par_of2 {ta : TA} {i j : Nat} {b : TS} {D : Ends} {σ : L2.St} {H : Hp} (h : ta σ H fun vs H1 => ∃ v w, vs = [v, w] ∧ b D ((σ.set i (some v)).set j (some w)) H1) : tSeq (tPar i j ta) b D σ H := h
theorem last_rev {α : Type} (x : α) (xs : List α) : ((x :: xs).reverse)[(x :: xs).reverse.length - 1]? = some x := by
  rw [List.reverse_cons, List.length_append]
  simp
theorem atI_last {x : V} {xs : List V} : atI ((x :: xs).reverse) (-1) = some x := by
  rw [List.reverse_cons]
  unfold atI ixN
  rw [List.length_append, List.length_reverse]
  have h1 : ¬ (0 ≤ (-1 : Int)) := by decide
  simp
  rw [if_pos (by omega)]
  show (xs.reverse ++ [x])[(-1 + ((xs.length : Int) + 1)).toNat]? = some x
  rw [show (-1 + ((xs.length : Int) + 1)).toNat = xs.reverse.length by rw [List.length_reverse]; omega]
  simp
abbrev endK : List (Key × V) := [(Sum.inr "(", .str ")"), (Sum.inr "[", .str "]"), (Sum.inr "<", .str ">")]
theorem endK_m : mergeK [] endK = endK := by decide +kernel
theorem op_cases {x : Str} (h : opB x = true) : x = "(" ∨ x = "[" ∨ x = "<" := by
  unfold opB at h
  have h : (eqV (.str "(") (.str x) || (eqV (.str "[") (.str x) || (eqV (.str "<") (.str x) || false))) = true := h
  simp [eqV] at h
  rcases h with h | h | h
  · exact .inl h.symm
  · exact .inr (.inl h.symm)
  · exact .inr (.inr h.symm)
section
variable {P : Program} {w : World} {K : PySem.W.Frag} {mg : Str → Option Value} {pB : Heap}
def spLNest : Sp := fun vs H Q _ => ∃ (s : Addr) (ws : List Str), vs = [.ref s] ∧ H s = some (.lst (ws.map V.str)) ∧ ws.length ≤ 12000000 ∧ (∀ x ∈ ws, x.length ≤ 12000000) ∧
  (∀ ds, lrun ([[]], []) ws = some ([ds], []) → ∀ (a : Addr) (m : Nat) (H' : Hp), Same H H' → Rep H' m (.ref a) (.tuple ds) → Q (.ref a) H') ∧
  ((∀ ds, lrun ([[]], []) ws ≠ some ([ds], [])) → ∀ H', Same H H' → Q .non H')
abbrev sLNest : Stmt := top 63
theorem scLNest : FnScope ["_law_words", "_law_pile", "_law_ends", "_law_word_here", "_law_inner"] ["_law_words"] (defScope sLNest) := ⟨rfl, rfl, rfl, by decide +kernel, rfl, by decide +kernel, by decide +kernel⟩
theorem ok_lnest {f fA : Addr} {fd dA : FuncData} (F : Fun K "_law_nested" "_law_nested" sLNest f fd)
    (GA : FnOk P w K mg pB CX0 1 fA dA ["_law_word_here"] spAtom) (mA : mg "_law_atom" = some (.ref fA)) (kA : PySem.W.keepIn K (.ref fA) = true) (bA : Binds K dA ["_law_word_here"] []) (mT : mg "tuple" = none) : FnOk P w K mg pB CX0 2 f fd ["_law_words"] spLNest := by
  refine F.ok scLNest (fun vs H Q E h => ?_) (fun cdv A outer s H vs Q E hr h => ?_)
  · obtain ⟨s, ws, rfl, _⟩ := h
    rfl
  · obtain ⟨sA, ws, rfl, hs, hlen, hwl, k, kn⟩ := h
    have nd := scLNest.nd
    have hu := hu_of hr
    refine ⟨_, pss_cons (ps_par (by rfl) nd (i := 1) (j := 2) rfl rfl (by decide) rfl rfl (pa_cons (pe_lst (pa_cons (pe_lst pa_nil) pa_nil)) (pa_cons (pe_lst pa_nil) pa_nil)) (by rfl))
      (pss_cons (ps_for PassesOwn.never rfl (pi_list (pv 0)) (pg_name (i := 3) nd rfl (Or.inl rfl))
        (pss_one (ps_if (pt_cmpR op_in_seq (pv 3) (pe_tup (pa_cons pe_str (pa_cons pe_str (pa_cons pe_str pa_nil)))) (by rfl))
          (pss_cons (ps_expr (pe_bm PySem.F.plainAttrs_list PySem.F.slot_list_append PySem.F.type_list_append mt_append (pv 1) (pa_cons (pe_lst pa_nil) pa_nil)))
          (pss_one (ps_expr (pe_bm PySem.F.plainAttrs_list PySem.F.slot_list_append PySem.F.type_list_append mt_append (pv 2) (pa_cons
            (pe_dget hu (pe_disp (pps_cons pe_str pe_str (pps_cons pe_str pe_str (pps_cons pe_str pe_str pps_nil))) (by rfl) (by rfl) (fun z => by cases z) (by decide)) (pv 3) (fun _ _ => rfl)) pa_nil)))))
          (pss_one (ps_if (pt_cmpR op_in_seq (pv 3) (pe_tup (pa_cons pe_str (pa_cons pe_str (pa_cons pe_str pa_nil)))) (by rfl))
            (pss_cons (ps_if (PW.pt (pw_or (pt_cmpR (op_eqL0 hr.units) (pv 2) (pe_lst pa_nil) (nomark _)) (pw_or1 (pt_cmpR op_ne (pe_bm0 PySem.F.plainAttrs_list PySem.F.slot_list_pop PySem.F.type_list_pop mt_pop (pv 2)) (pv 3) (nomark _))))) (pss_one (ps_ret pe_non)) pss_nil)
            (pss_cons (ps_set (i := 4) nd rfl (Or.inl rfl) (pe_callTy call_tuple_of (by rfl) mT (by decide +kernel) (pa_cons (pe_bm0 PySem.F.plainAttrs_list PySem.F.slot_list_pop PySem.F.type_list_pop mt_pop (pv 1)) pa_nil)))
            (pss_one (ps_expr (pe_bm PySem.F.plainAttrs_list PySem.F.slot_list_append PySem.F.type_list_append mt_append (pe_ix ix_list (pv 1) (pe_un un_neg pe_int) (fun _ _ => rfl)) (pa_cons (pv 4) pa_nil))))))
            (pss_one (ps_expr (pe_bm PySem.F.plainAttrs_list PySem.F.slot_list_append PySem.F.type_list_append mt_append (pe_ix ix_list (pv 1) (pe_un un_neg pe_int) (fun _ _ => rfl)) (pa_cons (pe_call GA hr rfl mA kA bA .nil pass0 (pa_cons (pv 3) pa_nil)) pa_nil)))))))))
      (pss_one (ps_ret (pe_ifExp (pt_cmpR (op_eqL0 hr.units) (pv 2) (pe_lst pa_nil) (nomark _)) (pe_callTy call_tuple_of (by rfl) mT (by decide +kernel) (pa_cons (pe_ix ix_list (pv 1) pe_int (fun _ _ => rfl)) pa_nil)) pe_non)))), ?_⟩
    refine par_of2 ⟨Nat.zero_le _, fun I hI => ⟨by show 1 ≤ sizeLine; decide, fun A hA => ⟨Nat.zero_le _, fun Ee hE => ⟨_, _, rfl, ?_⟩⟩⟩⟩
    have s1 : Same H (upd H I (.lst [])) := Same.new (Same.refl _) hI
    have cI : (upd H I (.lst [])) I = some (.lst []) := upd_same
    generalize upd H I (.lst []) = H1 at s1 cI hA hE ⊢
    have s2 : Same H1 (upd H1 A (.lst [.ref I])) := Same.new (Same.refl _) hA
    have cA : (upd H1 A (.lst [.ref I])) A = some (.lst [.ref I]) := upd_same
    generalize upd H1 A (.lst [.ref I]) = H2 at s2 cA hE ⊢
    have s3 : Same H2 (upd H2 Ee (.lst [])) := Same.new (Same.refl _) hE
    have cE : (upd H2 Ee (.lst [])) Ee = some (.lst []) := upd_same
    generalize upd H2 Ee (.lst []) = H3 at s3 cE ⊢
    have cI3 := s3 _ _ (s2 _ _ cI)
    have nAI : A ∉ [I] := fun z => by rw [List.mem_singleton.mp z, cI] at hA; cases hA
    have nEI : Ee ∉ [I] := fun z => by rw [List.mem_singleton.mp z, s2 _ _ cI] at hE; cases hE
    have nAE : A ≠ Ee := fun z => by rw [← z, cA] at hE; cases hE
    have n0 : Pil H H3 0 A Ee [I] [[]] [] := ⟨s1.trans (s2.trans s3), none_of s1 hA, s3 _ _ cA, none_of (s1.trans s2) hE, cE, .cons ⟨hI, [], cI3, Nat.le_refl _, .nil⟩ .nil, Nat.le_refl 1, nAI, nEI, nAE, by simp⟩
    have small : ∀ j : Nat, j ≤ ws.length + 3 → j < sizeLine := fun j hj => Nat.lt_of_le_of_lt (show j ≤ 12000003 by omega) (by decide)
    refine ⟨_, rfl, sA, rfl, ⟨_, SqL.of (n0.sm _ _ hs)⟩, for_list (xs := ws.map V.str) (fun i σ H3 => ∃ (ps : List Addr) (fs : List (List PyData)) (es : List Str) (x3 x4 : Option V), σ = [some (.ref sA), some (.ref A), some (.ref Ee), x3, x4] ∧ lrun ([[]], []) (ws.take i) = some (fs, es) ∧ Pil H H3 i A Ee ps fs es ∧ fs.length = es.length + 1) ⟨[I], [[]], [], none, none, rfl, rfl, n0, rfl⟩ ?_ ?_ ?_⟩
    · rintro i σ H3 _ ⟨ps, fs, es, x3, x4, rfl, _, n3, _⟩
      exact SqL.of (n3.sm _ _ hs)
    · rintro i y σ H3 hy ⟨ps, fs, es, x3, x4, rfl, hm, n3, hfe⟩
      rw [List.getElem?_map] at hy
      obtain ⟨x, hx, rfl⟩ := Option.map_eq_some_iff.mp hy
      have hi : i < ws.length := (List.getElem?_eq_some_iff.mp hx).1
      have hxl := hwl x (List.mem_of_getElem? hx)
      have hm' := lrun_next hm hx
      have hpf := Paired.length n3.fr
      have hpl := n3.al
      refine ⟨_, rfl, by show 3 ≤ sizeLine; decide, fun t0 ht0 => ?_⟩
      have q0 : Same H3 (upd H3 t0 (.tup opL)) := Same.new (Same.refl _) ht0
      have c0 : (upd H3 t0 (.tup opL)) t0 = some (.tup opL) := upd_same
      generalize upd H3 t0 (.tup opL) = H4 at q0 c0 ⊢
      have n4 := n3.same q0
      refine ⟨t0, _, rfl, .inr (SqT.of c0), rfl, rfl, _, rfl, ?_⟩
      rw [show (if false = true then !inV (.str x) opL else inV (.str x) opL) = opB x from rfl]
      cases ho : opB x with
      | true =>
        have hs' : lstep (fs, es) x = some ([] :: fs, endOf x :: es) := if_pos ho
        rw [hs'] at hm'
        refine iteT (drop_of ⟨_, rfl, .inl ⟨rfl, _, SqL.of n4.aL⟩, Nat.zero_le _, fun J hJ => ⟨A, _, _, rfl, rfl, Same.new (Same.refl _) hJ _ _ n4.aL, ?_, ?_⟩⟩)
        · rw [List.length_map, List.length_reverse]
          exact small _ (by omega)
        have n5 := n4.push hJ
        generalize upd (upd H4 J (.lst [])) A (.lst (ps.reverse.map V.ref ++ [.ref J])) = H5 at n5 ⊢
        refine ⟨_, rfl, .inl ⟨rfl, _, SqL.of n5.eL⟩, fun dp hdp => ⟨upd_same, endK, rfl, by decide, ?_⟩⟩
        rw [endK_m]
        have s6 : Same H5 (upd (upd H5 dp (.dK [])) dp (.dK endK)) := fun b o eb => by
          rw [upd_ne (ne_of_none eb hdp), upd_ne (ne_of_none eb hdp)]; exact eb
        have c6 : (upd (upd H5 dp (.dK [])) dp (.dK endK)) dp = some (.dK endK) := upd_same
        generalize upd (upd H5 dp (.dK [])) dp (.dK endK) = H6 at s6 c6 ⊢
        have n6 := n5.same s6
        have hget : DGet H6 dp (.str x) (some (.str (endOf x))) := by
          have h := DGet.k (k := (Sum.inr x : Key)) c6
          have e : valV endK (Sum.inr x : Key) = some (.str (endOf x)) := by
            rcases op_cases ho with rfl | rfl | rfl <;> decide +kernel
          rw [e] at h
          exact h
        refine ⟨_, rfl, dp, _, rfl, hget, Ee, _, _, rfl, rfl, n6.eL, ?_, ?_⟩
        · rw [List.length_map, List.length_reverse]
          exact small _ (by omega)
        · have n7 := n6.ends (es' := endOf x :: es)
          rw [List.reverse_cons, List.map_append] at n7
          exact ⟨_, _, _, _, _, rfl, hm', n7, by rw [List.length_cons, List.length_cons, hfe]⟩
      | false =>
        refine iteF ⟨_, rfl, by show 3 ≤ sizeLine; decide, fun t1 ht1 => ?_⟩
        have q1 : Same H4 (upd H4 t1 (.tup clL)) := Same.new (Same.refl _) ht1
        have c1 : (upd H4 t1 (.tup clL)) t1 = some (.tup clL) := upd_same
        generalize upd H4 t1 (.tup clL) = H5 at q1 c1 ⊢
        have n5 := n4.same q1
        refine ⟨t1, _, rfl, .inr (SqT.of c1), rfl, rfl, _, rfl, ?_⟩
        rw [show (if false = true then !inV (.str x) clL else inV (.str x) clL) = clB x from rfl]
        cases hcl : clB x with
        | false =>
          have hs0 : lstep (fs, es) x = (match fs with | inn :: fs => some ((inn ++ [atomD x]) :: fs, es) | [] => none) := by
            unfold lstep
            rw [if_neg (by rw [ho]; decide), if_neg (by rw [hcl]; decide)]
            cases fs <;> rfl
          cases fs with
          | nil => simp at hfe
          | cons inn fs =>
          rw [hs0] at hm'
          cases ps with
          | nil => cases n5.fr
          | cons p ps =>
          have hal := n5.aL
          have hat : atI ((p :: ps).reverse.map V.ref) (-1) = some (.ref p) := by
            have := atI_last (x := V.ref p) (xs := ps.map V.ref)
            rw [← List.map_cons, ← List.map_reverse] at this
            exact this
          obtain ⟨_, us, hp5, hul, _⟩ : Frm H H5 i p inn := by cases n5.fr with | cons r t => exact r
          refine iteF ⟨_, rfl, _, rfl, A, _, _, .ref p, rfl, rfl, SqL.of hal, hat, .inl ⟨rfl, _, SqL.of hp5⟩, _, rfl, x, rfl, hxl, fun H6 s6 => ⟨p, _, _, rfl, rfl, s6 _ _ hp5, small _ (by omega), ?_⟩⟩
          exact ⟨_, _, _, _, _, rfl, hm', (n5.same s6).app (s6 _ _ hp5) (atom_rep x H6 _), hfe⟩
        | true =>
          have hs0 : lstep (fs, es) x = (match es, fs with | e :: es, inn :: top :: fs => (if e = x then some ((top ++ [.tuple inn]) :: fs, es) else none) | _, _ => none) := by
            unfold lstep
            rw [if_neg (by rw [ho]; decide), if_pos hcl]
            rcases es with _ | ⟨e, es⟩ <;> rcases fs with _ | ⟨inn, _ | ⟨top, fs⟩⟩ <;> rfl
          have stop : lstep (fs, es) x = none → ∀ H', Same H5 H' → Q .non H' := fun e H' s' => kn (fun ds => by rw [lrun_stop hm hx e]; intro z; cases z) H' (n5.sm.trans s')
          refine iteT ⟨_, rfl, Nat.zero_le _, fun q hq => ?_⟩
          have q2 : Same H5 (upd H5 q (.lst [])) := Same.new (Same.refl _) hq
          have c2 : (upd H5 q (.lst [])) q = some (.lst []) := upd_same
          generalize upd H5 q (.lst []) = H6 at q2 c2 ⊢
          have n6 := n5.same q2
          refine ⟨Ee, q, _, rfl, rfl, SqL.of n6.eL, SqL.of c2, _, rfl, ?_⟩
          cases es with
          | nil => exact iteB1 rfl (iteT (stop hs0 H6 q2))
          | cons e es =>
          have hlast : ((e :: es).reverse.map V.str)[((e :: es).reverse.map V.str).length - 1]? = some (.str e) := by
            rw [List.length_map, List.getElem?_map, last_rev]; rfl
          refine iteB0 (by rw [List.reverse_cons, List.map_append]; simp) ⟨_, rfl, .inl ⟨rfl, _, SqL.of n6.eL⟩, Ee, _, .str e, rfl, rfl, n6.eL, hlast, _, rfl, rfl, _, rfl, ?_⟩
          have n7 := n6.ends (es' := es)
          have ed : ((e :: es).reverse.map V.str).dropLast = es.reverse.map V.str := by
            rw [List.reverse_cons, List.map_append]
            exact List.dropLast_concat
          rw [ed]
          have k7 : Kp Ee H6 (upd H6 Ee (.lst (es.reverse.map V.str))) := upd_kp
          generalize upd H6 Ee (.lst (es.reverse.map V.str)) = H7 at n7 k7 ⊢
          cases fs with
          | nil => simp at hfe
          | cons inn fs =>
          cases fs with
          | nil => simp at hfe
          | cons top fs =>
          have hs1 : lstep (inn :: top :: fs, e :: es) x = (if e = x then some ((top ++ [.tuple inn]) :: fs, es) else none) := hs0
          by_cases hex : e = x
          case neg =>
            refine iteB1 (by simp [hex]) ?_
            exact kn (fun ds => by rw [lrun_stop hm hx (by rw [hs1, if_neg hex])]; intro z; cases z) H7 n7.sm
          refine iteB0 (by simp [hex]) (nxt_of (asg_n ?_))
          rw [hs1, if_pos hex] at hm'
          cases ps with
          | nil => cases n7.fr
          | cons I ps =>
          have hlastA : ((I :: ps).reverse.map V.ref)[((I :: ps).reverse.map V.ref).length - 1]? = some (.ref I) := by
            rw [List.length_map, List.getElem?_map, last_rev]; rfl
          obtain ⟨n8, fI⟩ := n7.pop
          refine ⟨_, rfl, .inl ⟨rfl, _, SqL.of n7.aL⟩, A, _, .ref I, rfl, rfl, n7.aL, hlastA, ?_⟩
          generalize upd H7 A (.lst (((I :: ps).reverse.map V.ref).dropLast)) = H8 at n8 fI ⊢
          obtain ⟨_, vs, hIv, hvl, hPv⟩ := fI
          refine ⟨I, vs, rfl, .inl ⟨SqL.of hIv, fun t ht => ?_⟩⟩
          have q9 : Same H8 (upd H8 t (.tup vs)) := Same.new (Same.refl _) ht
          have c9 : (upd H8 t (.tup vs)) t = some (.tup vs) := upd_same
          generalize upd H8 t (.tup vs) = H9 at q9 c9 ⊢
          have n9 := n8.same q9
          cases ps with
          | nil => cases n9.fr
          | cons p ps =>
          have hat : atI ((p :: ps).reverse.map V.ref) (-1) = some (.ref p) := by
            have := atI_last (x := V.ref p) (xs := ps.map V.ref)
            rw [← List.map_cons, ← List.map_reverse] at this
            exact this
          obtain ⟨_, us, hp9, hul, _⟩ : Frm H H9 i p top := by cases n9.fr with | cons r t => exact r
          refine ⟨_, rfl, _, rfl, A, _, _, .ref p, rfl, rfl, SqL.of n9.aL, hat, .inl ⟨rfl, _, SqL.of hp9⟩, _, rfl, p, _, _, rfl, rfl, hp9, small _ (by omega), ?_⟩
          refine ⟨_, _, _, _, _, rfl, hm', n9.app hp9 (rep_t c9 (Paired.mapP hPv fun _ _ z => z.same q9)), ?_⟩
          simp at hfe ⊢
          omega
    · rintro σ H3 ⟨ps, fs, es, x3, x4, rfl, hm, n3, hfe⟩
      rw [List.length_map, List.take_length] at hm
      refine ⟨_, rfl, Nat.zero_le _, fun q hq => ?_⟩
      have q2 : Same H3 (upd H3 q (.lst [])) := Same.new (Same.refl _) hq
      have c2 : (upd H3 q (.lst [])) q = some (.lst []) := upd_same
      generalize upd H3 q (.lst []) = H4 at q2 c2 ⊢
      have n4 := n3.same q2
      refine ⟨Ee, q, _, rfl, rfl, SqL.of n4.eL, SqL.of c2, _, rfl, ?_⟩
      cases es with
      | cons e es =>
        refine iteB0 (by rw [List.reverse_cons, List.map_append]; simp) ?_
        exact kn (fun ds => by rw [hm]; intro z; cases z) H4 n4.sm
      | nil =>
        refine iteB1 rfl ?_
        obtain ⟨ds, rfl⟩ : ∃ ds, fs = [ds] := by
          match fs, hfe with
          | [ds], _ => exact ⟨ds, rfl⟩
        cases ps with
        | nil => cases n4.fr
        | cons I ps =>
        cases ps with
        | cons _ _ => have := n4.fr; cases this with | cons r t => cases t
        | nil =>
        obtain ⟨_, vs, hIv, hvl, hPv⟩ : Frm H H4 _ I ds := by cases n4.fr with | cons r t => exact r
        refine ⟨_, rfl, A, _, _, .ref I, rfl, rfl, SqL.of n4.aL, rfl, I, vs, rfl, .inl ⟨SqL.of hIv, fun t ht => ?_⟩⟩
        have q5 : Same H4 (upd H4 t (.tup vs)) := Same.new (Same.refl _) ht
        exact k ds hm t _ _ (n4.sm.trans q5) (rep_t upd_same (Paired.mapP hPv fun _ _ z => z.same q5))
end
end My

set_option Elab.async false
set_option linter.all false
set_option maxRecDepth 100000
set_option maxHeartbeats 4000000
namespace My
open PySem L2
section
variable {P : Program} {w : World} {K : PySem.W.Frag} {mg : Str → Option Value} {pB : Heap}
def spLRead : Sp := fun vs H Q _ => ∃ t : Str, vs = [.str t] ∧ t.length ≤ 900000 ∧ (∀ ds, readD t = some ds → ∀ (a : Addr) (m : Nat) (H' : Hp), Same H H' → Rep H' m (.ref a) (.tuple ds) → Q (.ref a) H') ∧ (readD t = none → ∀ H', Same H H' → Q .non H')
abbrev sLRead : Stmt := top 64
theorem scLRead : FnScope ["_law_text_here", "_law_todo"] ["_law_text_here"] (defScope sLRead) := ⟨rfl, rfl, rfl, by decide +kernel, rfl, by decide +kernel, by decide +kernel⟩
theorem ok_lread {f fN fI fT : Addr} {fd dN dI dT : FuncData} (F : Fun K "_law_read" "_law_read" sLRead f fd)
    (GN : FnOk P w K mg pB CX0 2 fN dN ["_law_words"] spLNest) (mN : mg "_law_nested" = some (.ref fN)) (kN : PySem.W.keepIn K (.ref fN) = true) (bN : Binds K dN ["_law_words"] [])
    (GI : FnOk P w K mg pB CX0 14 fI dI ["_law_thing"] (spTest isS)) (mI : mg "_law_is_script" = some (.ref fI)) (kI : PySem.W.keepIn K (.ref fI) = true) (bI : Binds K dI ["_law_thing"] [])
    (GT : FnOk P w K mg pB CX0 11 fT dT ["_law_todo"] (spShS 4)) (mT : mg "_law_text" = some (.ref fT)) (kT : PySem.W.keepIn K (.ref fT) = true) (bT : Binds K dT ["_law_todo"] []) : FnOk P w K mg pB CX0 15 f fd ["_law_text_here"] spLRead := by
  refine F.ok scLRead (fun vs H Q E h => ?_) (fun cdv A outer s H vs Q E hr h => ?_)
  · obtain ⟨t, rfl, _⟩ := h
    rfl
  · obtain ⟨t, rfl, hlt, k, kn⟩ := h
    have nd := scLRead.nd
    have hr2 : Room 2 _ := hr.mono (by decide)
    have hr11 : Room 11 _ := hr.mono (by decide)
    refine ⟨_, pss_cons (ps_set (i := 1) nd rfl (Or.inl rfl) (pe_ifExp (pt_cmpR op_eq (pv 0) pe_str (nomark _)) (pe_tup pa_nil)
        (pe_call GN hr2 rfl mN kN bN .nil pass0 (pa_cons (pe_bm PySem.F.plainAttrs_str PySem.F.slot_str_split PySem.F.type_str_split mt_split (pv 0) (pa_cons pe_str pa_nil)) pa_nil))))
      (pss_cons (ps_if (PW.pt (pw_or (pt_cmp (pc_isN (pv 1))) (pw_or (pt_not (pt_val (pe_call GI hr rfl mI kI bI .nil pass0 (pa_cons (pv 1) pa_nil))))
          (pw_or1 (pt_cmpR op_ne (pe_call GT hr11 rfl mT kT bT .nil pass0 (pa_cons (pv 1) pa_nil)) (pv 0) (nomark _)))))) (pss_one (ps_ret pe_non)) pss_nil)
      (pss_one (ps_ret (pv 1)))), ?_⟩
    -- what was read as a tuple
    have fin : ∀ (ds : List PyData) (a : Addr) (m : Nat) (H2 : Hp), Same H H2 → Rep H2 m (.ref a) (.tuple ds) → szD (.tuple ds) ≤ 1000000 → (∀ ds', readD t = some ds' → ds' = ds) →
        tSeq (tIfS (tOr (tB (tIsN (tVar 1))) (tOr (tNot (tB (tCall (spTest isS) [] E0 (tCons (tVar 1) tNil)))) (tTest (tOp rNe (tCall (spShS 4) [] E0 (tCons (tVar 1) tNil)) (tVar 0))))) (tRet (tC .non)) tNext) (tRet (tVar 1)) { nx := fun _ H' => Q .non H', rt := Q } [some (.str t), some (.ref a)] H2 := by
      intro ds a m H2 s2 hR2 hz hrd
      refine ⟨_, rfl, _, rfl, iteB0 rfl ⟨_, rfl, m, .ref a, .tuple ds, rfl, hR2, hz, fun H8 s8 => ⟨_, rfl, ?_⟩⟩⟩
      have no : ¬ (isS (.tuple ds) = true ∧ shS 5 (.tuple ds) = t) → readD t = none := fun hh => by
        cases e : readD t with
        | none => rfl
        | some ds' =>
          have := hrd ds' e
          subst this
          exact absurd (read_is e) hh
      cases hS : isS (.tuple ds) with
      | false => exact iteB1 rfl (iteT (kn (no fun z => by rw [hS] at z; cases z.1) H8 (s2.trans s8)))
      | true =>
        obtain ⟨c, hc, hc2⟩ := isS_cnt hS
        refine iteB0 rfl ⟨_, rfl, m, .ref a, .tuple ds, c, rfl, hR2.same s8, hc, by omega, hz, fun H9 s9 => ⟨_, rfl, rfl, _, rfl, ?_⟩⟩
        have s29 := s2.trans (s8.trans s9)
        by_cases ht : shS 5 (.tuple ds) = t
        · refine iteB0 (by rw [ht]; simp) (nxt_r ⟨_, rfl, ?_⟩)
          exact k ds (by rw [← ht]; exact read_own hc hc2) a m H9 s29 (hR2.same (s8.trans s9))
        · exact iteB1 (by simp [ht]) (kn (no fun z => ht z.2) H9 s29)
    refine asg_n ?_
    by_cases h0 : t = ""
    · subst h0
      refine ⟨_, rfl, rfl, _, rfl, iteB1 (by decide +kernel) ⟨Nat.zero_le _, fun tt htt => ?_⟩⟩
      have s1 : Same H (upd H tt (.tup [])) := Same.new (Same.refl _) htt
      have hR1 : Rep (upd H tt (.tup [])) 1 (.ref tt) (.tuple []) := ⟨tt, [], rfl, upd_same, .nil⟩
      refine fin [] tt 1 _ s1 hR1 (by decide +kernel) fun ds' e => ?_
      unfold readD at e
      rw [if_pos rfl] at e
      cases e
      rfl
    · obtain ⟨hne, htot⟩ := split_tot h0
      obtain ⟨hl1, hl2⟩ := tot_len (Txt.split t " ")
      refine ⟨_, rfl, rfl, _, rfl, iteB0 (decide_eq_false fun z => h0 (V.str.inj z)) (call_of ⟨_, rfl, rfl, t, " ", rfl, rfl, by decide +kernel, by rw [sizeLine_eq]; omega, fun q hq => ?_⟩)⟩
      have s1 : Same H (upd H q (.lst ((Txt.split t " ").map V.str))) := Same.new (Same.refl _) hq
      have c1 : (upd H q (.lst ((Txt.split t " ").map V.str))) q = some (.lst ((Txt.split t " ").map V.str)) := upd_same
      generalize upd H q (.lst ((Txt.split t " ").map V.str)) = H1 at s1 c1 ⊢
      refine ⟨q, Txt.split t " ", rfl, c1, by omega, fun x hx => by have := hl2 x hx; omega, fun ds hds a m H2 s2 hR2 => ?_, fun hno H2 s2 => ?_⟩
      · have hsz := lrun_sz hds
        have hz : szD (.tuple ds) ≤ 1000000 := by
          have h1 : (1 + szL ds) + 0 ≤ (1 + szL []) + 0 + tot (Txt.split t " ") := hsz
          rw [szL] at h1
          rw [szD]; omega
        refine fin ds a m H2 (s1.trans s2) hR2 hz fun ds' e => ?_
        have := lrun_own e h0
        rw [hds] at this
        cases this
        rfl
      · refine ⟨_, rfl, _, rfl, iteB1 rfl (iteT (kn ?_ H2 (s1.trans s2)))⟩
        cases e : readD t with
        | none => rfl
        | some ds => exact absurd (lrun_own e h0) (hno ds)
end
end My

set_option Elab.async false
set_option linter.all false
set_option maxRecDepth 100000
set_option maxHeartbeats 4000000
namespace L2
open PySem PySem.Spec PyProof.Rows
/-! ### isinstance of an exception that was kept -/
structure XkC (K : PySem.W.Frag) (C : Addr) : Prop where
  hd : PySem.W.hasDictIn K C = true
  ga : PySem.W.findIn K (.ref C) "__getattribute__" = some (some (.builtin "BaseException.__getattribute__"))
  gg : PySem.W.findIn K (.ref C) "__getattr__" = some none
  ex : PySem.W.subIn K (.ref C) (.type "BaseException") = some true
  cl : PySem.W.findIn K (.ref C) "__class__" = some (some (.builtin "object.__class__"))
  sp : PySem.W.specialIn K (.builtin "object.__class__") "__get__" = some (some (.builtin "getset_descriptor.__get__"))
  tk : PySem.W.takesIn K (.builtin "object.__class__") = some true
  mr : PySem.W.mroIn K C (.type "object") = some true
def rIsK (K : PySem.W.Frag) : List V → Hp → VK → Prop := fun xs H Q => ∃ (a C dd : Addr) (c : V) (fs : List (Str × V)) (u : Value) (b : Bool), xs = [.ref a, c] ∧ ClsV c u ∧ XkC K C ∧ H a = some (Exk (.ref C) (some dd) a) ∧ H dd = some (.xd fs) ∧ PySem.W.kitOne K (.ref C) u = some b ∧ Q (.bl b) H
def rIsKT (K : PySem.W.Frag) : List V → Hp → VK → Prop := fun xs H Q => ∃ (a C dd tp : Addr) (cs : List V) (fs : List (Str × V)) (us : List Value) (b : Bool), xs = [.ref a, .ref tp] ∧ H tp = some (.tup cs) ∧ Paired ClsV cs us ∧ XkC K C ∧ H a = some (Exk (.ref C) (some dd) a) ∧ H dd = some (.xd fs) ∧
  PySem.W.kitAny K (.ref C) us = some b ∧ Q (.bl b) H
section
variable {X : Cx} {pins : List (Addr × Obj)} {σ : St} {H : Hp} {s : Shared} {a C dd : Addr} {fs : List (Str × V)}
theorem kit_k (x : XkC X.K C) (I : Inv X pins σ H s) (hX : H a = some (Exk (.ref C) (some dd) a)) (hD : H dd = some (.xd fs)) : ∃ P : Heap → Prop, PySem.W.KitX X.K (.ref a) (.ref C) P ∧ P s.heap := by
  have hcl : (PySem.W.clsIn X.K C).isSome = true := by
    obtain ⟨cd, hc, _⟩ := PySem.W.any_some x.hd
    rw [hc]; rfl
  obtain ⟨oe, vs, ho, hz, hd⟩ := exk_at I.hok hX
  obtain ⟨mA, hns, _⟩ := (I.hok dd _ hD : ObjOk X.prog X.w H s.heap dd (.xd fs))
  obtain ⟨oD, hoD, _⟩ := lookIn_ns hns
  have nc : PySem.W.notCls oe = true := by
    unfold PySem.W.notCls
    rw [hd] <;> rfl
  exact ⟨_, PySem.W.kitx_exc (od := some oD) (ox := oe) hcl x.ga x.gg x.ex x.cl x.sp x.tk x.mr, ⟨ho, hz.1, nc, hz.2.symm ▸ hoD⟩⟩
theorem call_isK : CallR X (.builtin "isinstance") (rIsK X.K) := by
  intro pins s σ H xs us Q I r h
  obtain ⟨a, C, dd, c, fs, u, b, rfl, k, xc, hX, hD, e, q⟩ := h
  obtain ⟨u1, u2, rfl, r1, r2⟩ := vals2 r
  have e2 := k.eq r2
  subst e2
  cases (show u1 = Value.ref a from r1)
  obtain ⟨P, Z, p⟩ := kit_k xc I hX hD
  exact PySem.W.kia_one Z I.kIn p e (fun z => nomatch z) fun tk => ⟨.bl b, H, I.tok tk, rfl, q⟩
theorem call_isKT : CallR X (.builtin "isinstance") (rIsKT X.K) := by
  intro pins s σ H xs us Q I r h
  obtain ⟨a, C, dd, tp, cs, fs, ws, b, rfl, hT, k, xc, hX, hD, e, q⟩ := h
  obtain ⟨u1, u2, rfl, r1, r2⟩ := vals2 r
  cases (show u2 = Value.ref tp from r2)
  cases (show u1 = Value.ref a from r1)
  obtain ⟨P, Z, p⟩ := kit_k xc I hX hD
  obtain ⟨_, its, rv, o, h1, h2, n, h3⟩ := (show ObjOk X.prog X.w H s.heap tp (.tup cs) from I.hok tp _ hT)
  have e3 := ClsV.all k rv
  subst e3
  obtain ⟨oc, od, dt, sl⟩ := o
  simp only at h2 h3
  subst h2 h3
  exact PySem.W.kia_tup Z I.kIn p h1 e (fun z => nomatch z) fun tk => ⟨.bl b, H, I.tok tk, rfl, q⟩
end
end L2

set_option Elab.async false
set_option linter.all false
set_option maxRecDepth 100000
set_option maxHeartbeats 4000000
namespace My
open PySem L2
section
variable {P : Program} {w : World} {K : PySem.W.Frag} {mg : Str → Option Value} {pB : Heap}
def spTold : Sp := fun vs H Q _ => ∃ (m : Nat) (v : V) (d : PyData), vs = [v] ∧ Rep H m v d ∧ (∀ t, d = .str t → t.length ≤ 900000) ∧
  (∀ t ds, d = .str t → readD t = some ds → ∀ (a : Addr) (m : Nat) (H' : Hp), Same H H' → Rep H' m (.ref a) (.tuple ds) → Q (.ref a) H') ∧
  ((∀ t ds, d = .str t → readD t ≠ some ds) → ∀ (a : Addr) (H' : Hp), Same H H' → H' a = some (.tup [.str "none", .int 0]) → Q (.ref a) H')
abbrev sTold : Stmt := top 66
theorem scTold : FnScope ["_law_thing", "_law_caught", "_law_found", "e"] ["_law_thing"] (defScope sTold) := ⟨rfl, rfl, rfl, by decide +kernel, rfl, by decide +kernel, by decide +kernel⟩
theorem ok_told {f fR C C1 C2 C3 : Addr} {fd dR : FuncData} (F : Fun K "_law_told" "_law_told" sTold f fd) (xf : XfC K C) (xk : XkC K C) (nf : PySem.W.findIn K (.ref C) "row" = some none) (te : PySem.W.exmOne K (.ref C) (.ref C) = some true)
    (kV : PySem.W.kitOne K (.ref C) (.type "ValueError") = some true) (k3 : PySem.W.kitAny K (.ref C) [.ref C1, .ref C2, .ref C3] = some false) (mX : mg "NoText" = some (.ref C)) (m1 : mg "NoRow" = some (.ref C1)) (m2 : mg "NoScript" = some (.ref C2)) (m3 : mg "TooMany" = some (.ref C3))
    (GR : FnOk P w K mg pB (CX P w) 25 fR dR ["text"] (spRead C)) (mR : mg "read_script" = some (.ref fR)) (kR : PySem.W.keepIn K (.ref fR) = true) (bR : Binds K dR ["text"] []) (mI : mg "isinstance" = none) (mV : mg "ValueError" = none) : FnOk P w K mg pB CX0 26 f fd ["_law_thing"] spTold := by
  refine F.ok scTold (fun vs H Q E h => ?_) (fun cdv A outer s H vs Q E hr h => ?_)
  · obtain ⟨m, v, d, rfl, _⟩ := h
    rfl
  · obtain ⟨m, v, d, rfl, hR, hl, k, kn⟩ := h
    have nd := scTold.nd
    refine ⟨_, pss_cons (ps_asg (pe_tup (pa_cons pe_non (pa_cons pe_non pa_nil))) (pg_tup (by rfl) (pgs_cons (pg_name (i := 1) nd rfl (Or.inl rfl)) (pgs_cons (pg_name (i := 2) nd rfl (Or.inl rfl)) pgs_nil))))
      (pss_cons (ps_try_keep (i := 3) (j := 1) (c := .ref C) rfl rfl rfl nd rfl rfl ⟨rfl, by decide, .inl mX⟩
        (fun W pn xe tk _ => pss_one (ps_set (i := 2) nd rfl (Or.inl rfl) (pe_callS GR hr rfl mR kR bR (fun σ => passAt tk σ) (pa_cons (pv 0) pa_nil))))
        (fun a oe cls d pn hz hf => pss_one (ps_set (i := 1) nd rfl (Or.inl rfl) (pv 3))))
      (pss_cons (ps_if (pt_cmp (pc_isN (pv 1))) (pss_one (ps_ret (pv 2))) pss_nil)
      (pss_cons (ps_if (PW.pt (pw_or (pt_not (pt_val (pe_callB call_isK (by rfl) mI (by decide +kernel) (pa_cons (pv 1) (pa_cons (pe_bltn (by rfl) mV (by kernel_rfl) (show RelV (.ty "ValueError") (.type "ValueError") from rfl)) pa_nil)))))
          (pw_or1 (pt_val (pe_callB call_isKT (by rfl) mI (by decide +kernel) (pa_cons (pv 1) (pa_cons (pe_tup (pa_cons (pe_glob (by rfl) m1 (show RelV (.ref C1) _ from rfl)) (pa_cons (pe_glob (by rfl) m2 (show RelV (.ref C2) _ from rfl)) (pa_cons (pe_glob (by rfl) m3 (show RelV (.ref C3) _ from rfl)) pa_nil)))) pa_nil))))))) (pss_one (ps_ret pe_str)) pss_nil)
      (pss_one (ps_ret (pe_tup (pa_cons pe_str (pa_cons (pe_xk (pv 1)) pa_nil)))))))), ?_⟩
    refine ⟨by show 2 ≤ sizeLine; decide, fun t0 ht0 => ⟨t0, _, rfl, SqT.of upd_same, rfl, _, _, rfl, _, _, rfl, rfl, ?_⟩⟩
    have s0 : Same H (upd H t0 (.tup [.non, .non])) := Same.new (Same.refl _) ht0
    generalize upd H t0 (.tup [.non, .non]) = H0 at s0 ⊢
    show tSeq _ _ _ _ _
    refine ⟨_, rfl, m, v, d, rfl, hR.same s0, hl, fun t ds e1 e2 a m' H1 s1 hR1 => ?_, fun hno x H1 s1 hx0 hx => ⟨te, fun a ha => ?_⟩⟩
    · exact ⟨_, rfl, _, rfl, iteB1 rfl ⟨_, rfl, k t ds e1 e2 a m' H1 (s0.trans s1) hR1⟩⟩
    · have sa : Same H1 (upd H1 a (Exk (.ref C) (some x) a)) := Same.new (Same.refl _) ha
      have ca : (upd H1 a (Exk (.ref C) (some x) a)) a = some (Exk (.ref C) (some x) a) := upd_same
      have cx := sa _ _ hx
      generalize upd H1 a (Exk (.ref C) (some x) a) = H2 at sa ca cx ⊢
      refine ⟨_, rfl, _, rfl, iteB0 rfl (nxt_of ?_)⟩
      refine ⟨_, rfl, a, C, x, .ty "ValueError", _, .type "ValueError", true, rfl, .ty _, xk, ca, cx, kV, _, rfl, iteB0 rfl ?_⟩
      refine ⟨_, rfl, by show 3 ≤ sizeLine; decide, fun tp htp => ?_⟩
      have s3 : Same H2 (upd H2 tp (.tup [.ref C1, .ref C2, .ref C3])) := Same.new (Same.refl _) htp
      refine ⟨a, C, x, tp, _, _, _, false, rfl, upd_same, .cons (.own _) (.cons (.own _) (.cons (.own _) .nil)), xk, s3 _ _ ca, s3 _ _ cx, k3, _, rfl, iteB0 rfl (nxt_r ?_)⟩
      generalize upd H2 tp (.tup [.ref C1, .ref C2, .ref C3]) = H3 at s3 ⊢
      refine ⟨_, rfl, a, C, x, _, .int 0, rfl, xf, nf, s3 _ _ ca, s3 _ _ cx, rfl, by show 2 ≤ sizeLine; decide, fun tt htt => ?_⟩
      exact kn hno tt _ (s0.trans <| s1.trans (sa.trans (s3.trans (Same.new (Same.refl _) htt)))) upd_same
end
end My

set_option Elab.async false
set_option linter.all false
set_option maxRecDepth 100000
set_option maxHeartbeats 4000000
namespace My
open PySem L2
theorem par3_of {ta : TA} {i j l : Nat} {b : TS} {D : Ends} {σ : L2.St} {H : Hp} (h : ta σ H fun vs H1 => ∃ u v w, vs = [u, v, w] ∧ b D (((σ.set i (some u)).set j (some v)).set l (some w)) H1) : tSeq (tPar3 i j l ta) b D σ H := h
theorem opS_of {R : R2} {ta tb : TE} {σ : L2.St} {H : Hp} {Q : VK} (h : ta σ H fun x H1 => tb σ H1 fun y H2 => R x y H2 Q) : tOp R ta tb σ H Q := h
theorem split_all (t : Str) : Txt.split t " " ≠ [] ∧ tot (Txt.split t " ") = t.length + 1 := by
  by_cases h : t = ""
  · subst h
    exact ⟨by decide +kernel, by decide +kernel⟩
  · exact split_tot h
theorem jn_le (l : List Str) : (Txt.join " " l).length ≤ tot l := by
  by_cases h : l = []
  · subst h
    decide +kernel
  · have := jn_len h
    omega
theorem tot_take (l : List Str) (i : Nat) : tot (l.take i) + tot (l.drop i) = tot l := by
  rw [← tot_app, List.take_append_drop]
theorem tot_drop_le (l : List Str) (i : Nat) : tot (l.drop i) ≤ tot l := by have := tot_take l i; omega
theorem tot_drop_succ (l : List Str) (i : Nat) : tot (l.drop (i + 1)) ≤ tot (l.drop i) := by
  rw [show l.drop (i + 1) = (l.drop i).drop 1 by rw [List.drop_drop]]
  exact tot_drop_le _ _
theorem tot_set : ∀ {l : List Str} {i : Nat} {y : Str} (x : Str), l[i]? = some y → tot (l.set i x) + y.length = tot l + x.length
  | [], _, _, _, h => by simp at h
  | a :: l, 0, y, x, h => by
    simp at h
    subst h
    rw [List.set_cons_zero, tot_cons, tot_cons]; omega
  | a :: l, i + 1, y, x, h => by
    have := tot_set (l := l) (i := i) (y := y) x (by simpa using h)
    rw [List.set_cons_succ, tot_cons, tot_cons]; omega
theorem mem_tot {l : List Str} {x : Str} (h : x ∈ l) : x.length + 1 ≤ tot l := by
  induction l with
  | nil => cases h
  | cons a l ih =>
    rw [tot_cons]
    rcases List.mem_cons.mp h with rfl | h
    · omega
    · have := ih h; omega
theorem cut_le (t : Str) (lo hi : Option Int) : (cutS t lo hi).length ≤ t.length := cutS_length t lo hi
theorem cut_one (t : Str) {a : Int} (h : 0 ≤ a) : (cutS t (some a) (some (a + 1))).length ≤ 1 := by
  obtain ⟨n, rfl⟩ : ∃ n : Nat, a = (n : Int) := ⟨a.toNat, by omega⟩
  unfold cutS
  rw [show ((n : Int) + 1) = ((n + 1 : Nat) : Int) by omega, HT.sIx_nat, HT.sIx_nat]
  show (List.take _ _).toArray.size ≤ 1
  rw [List.size_toArray, List.length_take]
  omega
theorem len_app (a b : Str) : (a ++ b).length = a.length + b.length := by
  rw [TL.len_tl, TL.len_tl, TL.len_tl, TL.tl_append, List.length_append]
theorem cutV_str (ws : List Str) (lo hi : Option Int) : ∃ us : List Str, cutV (ws.map V.str) lo hi = us.map V.str := by
  refine ⟨(ws.drop (HT.sIx ws.length 0 lo)).take (HT.sIx ws.length ws.length hi - HT.sIx ws.length 0 lo), ?_⟩
  unfold cutV
  rw [List.length_map, List.map_take, List.map_drop]
theorem cutL_to (ws : List Str) {k : Int} (h0 : 0 ≤ k) (h1 : k ≤ ws.length) : cutV (ws.map V.str) none (some k) = (ws.take k.toNat).map V.str := by
  rw [cut_to _ h0 (by rw [List.length_map]; exact h1), List.map_take]
theorem cutL_from (ws : List Str) {k : Int} (h0 : 0 ≤ k) (h1 : k ≤ ws.length) : cutV (ws.map V.str) (some k) none = (ws.drop k.toNat).map V.str := by
  rw [cut_from _ h0 (by rw [List.length_map]; exact h1), List.map_drop]
theorem Dr.fr {H H' : Hp} {d l q : Addr} {ms : List Int} {n n' L' b : Int} (x : Dr H H' d l ms n n' L' b) (h : H' q = none) : H q = none := by
  cases e : H q with
  | none => rfl
  | some o =>
    by_cases hq : q = d
    · rw [hq, x.pn.dc] at h; cases h
    · rw [x.kp _ _ e hq] at h; cases h
theorem rd_slTo {K : PySem.W.Frag} {H : Hp} {Q : VK} {q : Addr} {ws : List Str} {k : Int} (h : H q = some (.lst (ws.map V.str))) (h0 : 0 ≤ k) (h1 : k ≤ ws.length) (kk : ∀ p H', Same H H' → H p = none → H' p = some (.lst ((ws.take k.toNat).map V.str)) → Q (.ref p) H') : rSlL K (.ref q) none (some k) H Q :=
  ⟨q, _, rfl, SqL.of h, fun p hp => kk p _ (Same.new (Same.refl _) hp) hp (by rw [upd_same, cutL_to ws h0 h1])⟩
theorem rd_slFrom {K : PySem.W.Frag} {H : Hp} {Q : VK} {q : Addr} {ws : List Str} {k : Int} (h : H q = some (.lst (ws.map V.str))) (h0 : 0 ≤ k) (h1 : k ≤ ws.length) (kk : ∀ p H', Same H H' → H p = none → H' p = some (.lst ((ws.drop k.toNat).map V.str)) → Q (.ref p) H') : rSlL K (.ref q) (some k) none H Q :=
  ⟨q, _, rfl, SqL.of h, fun p hp => kk p _ (Same.new (Same.refl _) hp) hp (by rw [upd_same, cutL_from ws h0 h1])⟩
theorem rd_catS {H : Hp} {Q : VK} {a b : Addr} {us vs : List Str} (ha : H a = some (.lst (us.map V.str))) (hb : H b = some (.lst (vs.map V.str))) (hl : us.length + vs.length ≤ 2000000) (kk : ∀ p H', Same H H' → H p = none → H' p = some (.lst ((us ++ vs).map V.str)) → Q (.ref p) H') : rCat (.ref a) (.ref b) H Q :=
  ⟨a, b, _, _, rfl, rfl, ha, hb, by rw [List.length_map, List.length_map]; exact Nat.le_trans hl (by decide), fun p hp => kk p _ (Same.new (Same.refl _) hp) hp (by rw [upd_same, List.map_append])⟩
theorem rd_jn {K : PySem.W.Frag} {H : Hp} {Q : VK} {p : Addr} {us : List Str} (h : H p = some (.lst (us.map V.str))) (hl : tot us ≤ 2000000) (hQ : Q (.str (Txt.join " " us)) H) :
    ∃ (a : Str) (p' : Addr) (ys : List Str), V.str (Str.ofString " ") = V.str a ∧ [V.ref p] = [V.ref p'] ∧ (SqL K H p' (List.map V.str ys) ∨ SqT K H p' (List.map V.str ys)) ∧ (List.map (fun x => x.length) ys).sum + ys.length * a.length ≤ 16777216 ∧ Q (V.str (Txt.join a ys)) H := by
  refine ⟨_, p, us, rfl, rfl, .inl (SqL.of h), ?_, hQ⟩
  rw [show Str.length " " = 1 by decide +kernel, Nat.mul_one]
  show tot us ≤ _
  omega
theorem ixN_of {n : Nat} {k : Int} (h0 : 0 ≤ k) (h1 : k < n) : ixN n k = some k.toNat := by
  unfold ixN
  rw [if_pos h0, if_pos h1]
theorem map_setS (ws : List Str) (j : Nat) (x : Str) : (ws.map V.str).set j (.str x) = (ws.set j x).map V.str := by rw [List.map_set]
section
variable {P : Program} {w : World} {K : PySem.W.Frag} {mg : Str → Option Value} {pB : Heap}
def spSpo : Sp := fun vs H Q _ => ∃ (d l : Addr) (ms : List Int) (n L : Int) (t : Str), vs = [.ref d, .str t] ∧ Pen H d l ms n L ∧ n < 2 ^ 38 ∧ t.length ≤ 440000 ∧ ∀ (t' : Str) (n' L' : Int) (H' : Hp), t'.length ≤ 2 * t.length + 20 → Dr H H' d l ms n n' L' 6 → Q (.str t') H'
abbrev sSpo : Stmt := top 65
abbrev nSpo : List Str := ["_law_held", "_law_text_here", "_law_signs", "_law_at", "_law_sign", "_law_way", "_law_some", "_law_words", "_law_one", "_law_other", "_law_odd", "_law_kept"]
theorem scSpo : FnScope nSpo ["_law_held", "_law_text_here"] (defScope sSpo) := ⟨rfl, rfl, rfl, by decide +kernel, rfl, by decide +kernel, by decide +kernel⟩
theorem ok_spo {f fD fC : Addr} {fd dD dC : FuncData} (F : Fun K "_law_spoilt" "_law_spoilt" sSpo f fd)
    (GD : FnOk P w K mg pB CX0 1 fD dD ["_law_held", "_law_many_here"] spDraw) (mD : mg "_law_draw" = some (.ref fD)) (kD : PySem.W.keepIn K (.ref fD) = true) (bD : Binds K dD ["_law_held", "_law_many_here"] [])
    (GC : FnOk P w K mg pB CX0 2 fC dC ["_law_held", "_law_some"] spPick) (mC : mg "_law_pick" = some (.ref fC)) (kC : PySem.W.keepIn K (.ref fC) = true) (bC : Binds K dC ["_law_held", "_law_some"] []) (mLen : mg "len" = none) : FnOk P w K mg pB CX0 3 f fd ["_law_held", "_law_text_here"] spSpo := by
  refine F.ok scSpo (fun vs H Q E h => ?_) (fun cdv A outer s H vs Q E hr h => ?_)
  · obtain ⟨d, l, ms, n, L, t, rfl, _⟩ := h
    rfl
  · obtain ⟨d, l, ms, n, L, t, rfl, p, hn, ht, k⟩ := h
    have nd := scSpo.nd
    have hr1 : Room 1 _ := hr.mono (by decide)
    refine ⟨_, pss_cons (ps_set (i := 2) nd rfl (Or.inl rfl) pe_str)
      (pss_cons (ps_set (i := 2) nd rfl (Or.inl rfl) (pe_op op_add_str (pv 2) pe_str))
      (pss_cons (ps_par3 (by rfl) nd (i := 3) (j := 4) (l := 5) rfl rfl rfl (by decide) (by decide) (by decide) rfl rfl rfl
        (pa_cons (pe_call GD hr1 rfl mD kD bD .nil pass0 (pa_cons (pv 0) (pa_cons (pe_op op_add (pe_callB call_len_str (by rfl) mLen PySem.boot_len (pa_cons (pv 1) pa_nil)) pe_int) pa_nil)))
        (pa_cons (pe_call GC hr rfl mC kC bC .nil pass0 (pa_cons (pv 0) (pa_cons (pv 2) pa_nil))) (pa_cons (pe_call GD hr1 rfl mD kD bD .nil pass0 (pa_cons (pv 0) (pa_cons pe_int pa_nil))) pa_nil))) (by rfl))
      (pss_cons (ps_if (pt_cmpR op_lt (pv 5) pe_int (nomark _))
        (pss_cons (ps_set (i := 6) nd rfl (Or.inl rfl) (pe_lst
          (pa_cons (pe_op op_add_str (pe_op op_add_str (pe_slice sl_str (pv 1) po_none (po_some (pv 3))) (pv 4)) (pe_slice sl_str (pv 1) (po_some (pv 3)) po_none))
          (pa_cons (pe_op op_add_str (pe_op op_add_str (pe_slice sl_str (pv 1) po_none (po_some (pv 3))) (pv 4)) (pe_slice sl_str (pv 1) (po_some (pe_op op_add (pv 3) pe_int)) po_none))
          (pa_cons (pe_op op_add_str (pe_slice sl_str (pv 1) po_none (po_some (pv 3))) (pe_slice sl_str (pv 1) (po_some (pe_op op_add (pv 3) pe_int)) po_none)) pa_nil)))))
        (pss_cons (ps_expr (pe_bm PySem.F.plainAttrs_list PySem.F.slot_list_append PySem.F.type_list_append mt_append (pv 6) (pa_cons
          (pe_op op_add_str (pe_op op_add_str (pe_slice sl_str (pv 1) po_none (po_some (pv 3))) (pe_slice sl_str (pv 1) (po_some (pv 3)) (po_some (pe_op op_add (pv 3) pe_int)))) (pe_slice sl_str (pv 1) (po_some (pv 3)) po_none)) pa_nil)))
        (pss_one (ps_ret (pe_ix ix_list (pv 6) (pv 5) (fun _ _ => rfl)))))) pss_nil)
      (pss_cons (ps_set (i := 7) nd rfl (Or.inl rfl) (pe_bm PySem.F.plainAttrs_str PySem.F.slot_str_split PySem.F.type_str_split mt_split (pv 1) (pa_cons pe_str pa_nil)))
      (pss_cons (ps_par (by rfl) nd (i := 8) (j := 9) rfl rfl (by decide) rfl rfl (pa_cons (pe_call GD hr1 rfl mD kD bD .nil pass0 (pa_cons (pv 0) (pa_cons (pe_callB call_len_seq (by rfl) mLen PySem.boot_len (pa_cons (pv 7) pa_nil)) pa_nil)))
          (pa_cons (pe_call GD hr1 rfl mD kD bD .nil pass0 (pa_cons (pv 0) (pa_cons (pe_callB call_len_seq (by rfl) mLen PySem.boot_len (pa_cons (pv 7) pa_nil)) pa_nil))) pa_nil)) (by rfl))
      (pss_cons (ps_if (pt_cmpR op_eq (pv 5) pe_int (nomark _)) (pss_one (ps_ret (pe_join pe_str (pe_op op_cat (pe_slice sl_list (pv 7) po_none (po_some (pv 8))) (pe_slice sl_list (pv 7) (po_some (pe_op op_add (pv 8) pe_int)) po_none))))) pss_nil)
      (pss_cons (ps_if (pt_cmpR op_eq (pv 5) pe_int (nomark _)) (pss_one (ps_ret (pe_join pe_str (pe_op op_cat (pe_op op_cat (pe_slice sl_list (pv 7) po_none (po_some (pv 8))) (pe_lst (pa_cons (pe_ix ix_list (pv 7) (pv 9) (fun _ _ => rfl)) pa_nil))) (pe_slice sl_list (pv 7) (po_some (pv 8)) po_none))))) pss_nil)
      (pss_cons (ps_set (i := 10) nd rfl (Or.inl rfl) (pe_lst (pa_cons pe_str (pa_cons pe_str (pa_cons pe_str (pa_cons pe_str (pa_cons pe_str (pa_cons pe_str (pa_cons pe_str (pa_cons pe_str (pa_cons pe_str (pa_cons pe_str (pa_cons pe_str (pa_cons pe_str pa_nil))))))))))))))
      (pss_cons (ps_set (i := 10) nd rfl (Or.inl rfl) (pe_op op_cat (pv 10) (pe_lst (pa_cons pe_str (pa_cons pe_str (pa_cons pe_str (pa_cons pe_str (pa_cons pe_str pa_nil))))))))
      (pss_cons (ps_if (pt_cmpR op_eq (pv 5) pe_int (nomark _))
        (pss_cons (ps_set (i := 11) nd rfl (Or.inl rfl) (pe_ix ix_list (pv 7) (pv 8) (fun _ _ => rfl)))
        (pss_cons (ps_asg (pe_ix ix_list (pv 7) (pv 9) (fun _ _ => rfl)) (pg_sub (pv 7) (pv 8) set_list))
        (pss_one (ps_asg (pv 11) (pg_sub (pv 7) (pv 9) set_list)))))
        (pss_one (ps_asg (pe_call GC hr rfl mC kC bC .nil pass0 (pa_cons (pv 0) (pa_cons (pv 10) pa_nil))) (pg_sub (pv 7) (pv 8) set_list))))
      (pss_one (ps_ret (pe_join pe_str (pv 7)))))))))))))), ?_⟩
    have h1 : t.length ≤ sizeLine := Nat.le_trans ht (by decide)
    refine asg_n (asg_n (opS_of ⟨_, rfl, _, _, rfl, rfl, by decide +kernel, ?_⟩))
    have hsg : 0 < ((Str.ofString " !\"#$&'()*+,-./0123456789:;<=>?@") ++ (Str.ofString "ABCDEFGHIJKLMNOPQRSTUVWXYZ[\\]^_`abcdefghijklmnopqrstuvwxyz{|}~\n")).length ∧ ((Str.ofString " !\"#$&'()*+,-./0123456789:;<=>?@") ++ (Str.ofString "ABCDEFGHIJKLMNOPQRSTUVWXYZ[\\]^_`abcdefghijklmnopqrstuvwxyz{|}~\n")).length ≤ 1000 := by decide +kernel
    generalize ((Str.ofString " !\"#$&'()*+,-./0123456789:;<=>?@") ++ (Str.ofString "ABCDEFGHIJKLMNOPQRSTUVWXYZ[\\]^_`abcdefghijklmnopqrstuvwxyz{|}~\n")) = sg at hsg
    refine par3_of (cons_of (rd_dr (m := (t.length : Int) + 1) rfl (fun _ h => ⟨_, rfl, t, rfl, h1, _, _, rfl, rfl, h⟩) p (by omega) (by omega) (by omega) fun ra n1 L1 H1 a0 a1 y1 => ?_))
    have b1 := y1.hi
    refine cons_of (call_of ⟨_, rfl, _, rfl, d, l, ms, n1, L1, .str sg, rfl, y1.pn, by omega, .inl ⟨sg, rfl, hsg.1, hsg.2, fun c n2 L2 H2 hc y2 => ?_⟩⟩)
    have b2 := y2.hi
    refine cons_of (rd_dr (m := 9) rfl (fun _ h => h) y2.pn (by omega) (by decide) (by decide) fun rw n3 L3 H3 w0 w1 y3 => ⟨_, _, _, rfl, ?_⟩)
    have b3 := y3.hi
    have y13 := y1.trans (y2.trans y3)
    have lc : (⟨#[c]⟩ : Str).length = 1 := rfl
    generalize (⟨#[c]⟩ : Str) = sn at lc
    refine ⟨_, rfl, _, _, rfl, rfl, _, rfl, ?_⟩
    by_cases hw4 : rw < 4
    · refine iteB1 (decide_eq_true hw4) ?_
      have c1 := cut_le t none (some ra)
      have c2 := cut_le t (some ra) none
      have c3 := cut_le t (some (ra + 1)) none
      have c4 := cut_one t a0
      have e1 := len_app (cutS t none (some ra)) sn
      have e2 := len_app (cutS t none (some ra) ++ sn) (cutS t (some ra) none)
      have e3 := len_app (cutS t none (some ra) ++ sn) (cutS t (some (ra + 1)) none)
      have e4 := len_app (cutS t none (some ra)) (cutS t (some (ra + 1)) none)
      have e5 := len_app (cutS t none (some ra)) (cutS t (some ra) (some (ra + 1)))
      have e6 := len_app (cutS t none (some ra) ++ cutS t (some ra) (some (ra + 1))) (cutS t (some ra) none)
      have sz : ∀ j : Nat, j ≤ 2000000 → j ≤ sizeLine := fun j hj => Nat.le_trans hj (by decide)
      refine asg_n (lst_of (cons_of (val_of (.str (cutS t none (some ra) ++ sn ++ cutS t (some ra) none)) (fun Q' hQ => ?_) (cons_of (val_of (.str (cutS t none (some ra) ++ sn ++ cutS t (some (ra + 1)) none)) (fun Q' hQ => ?_) (cons_of (val_of (.str (cutS t none (some ra) ++ cutS t (some (ra + 1)) none)) (fun Q' hQ => ?_) ?_)))))))
      · exact ⟨_, rfl, np_of ⟨_, rfl, _, rfl, t, rfl, h1, _, rfl, _, _, rfl, rfl, sz _ (by omega), _, rfl, _, rfl, _, rfl, np_of ⟨t, rfl, h1, _, _, rfl, rfl, sz _ (by omega), hQ⟩⟩⟩
      · exact ⟨_, rfl, np_of ⟨_, rfl, _, rfl, t, rfl, h1, _, rfl, _, _, rfl, rfl, sz _ (by omega), _, rfl, _, rfl, _, _, rfl, rfl, _, rfl, np_of ⟨t, rfl, h1, _, _, rfl, rfl, sz _ (by omega), hQ⟩⟩⟩
      · exact ⟨_, rfl, np_of ⟨_, rfl, _, rfl, t, rfl, h1, _, rfl, _, rfl, _, _, rfl, rfl, _, rfl, np_of ⟨t, rfl, h1, _, _, rfl, rfl, sz _ (by omega), hQ⟩⟩⟩
      refine ⟨by show 3 ≤ sizeLine; decide, fun q hq => ?_⟩
      generalize hZ1 : cutS t none (some ra) ++ sn ++ cutS t (some ra) none = Z1 at e2
      generalize hZ2 : cutS t none (some ra) ++ sn ++ cutS t (some (ra + 1)) none = Z2 at e3
      generalize hZ3 : cutS t none (some ra) ++ cutS t (some (ra + 1)) none = Z3 at e4
      have s4 : Same H3 (upd H3 q (.lst [.str Z1, .str Z2, .str Z3])) := Same.new (Same.refl _) hq
      have c4' : (upd H3 q (.lst [.str Z1, .str Z2, .str Z3])) q = some (.lst [.str Z1, .str Z2, .str Z3]) := upd_same
      generalize upd H3 q (.lst [.str Z1, .str Z2, .str Z3]) = H4 at s4 c4' ⊢
      refine drop_of ⟨_, rfl, .inl ⟨rfl, _, SqL.of c4'⟩, cons_of (val_of (.str (cutS t none (some ra) ++ cutS t (some ra) (some (ra + 1)) ++ cutS t (some ra) none)) (fun Q' hQ => ?_) ⟨q, _, _, rfl, rfl, c4', by show 3 < sizeLine; decide, ?_⟩)⟩
      · exact ⟨_, rfl, np_of ⟨_, rfl, _, rfl, t, rfl, h1, _, rfl, _, rfl, _, rfl, _, rfl, _, _, rfl, rfl, _, rfl, t, rfl, h1, _, _, rfl, rfl, sz _ (by omega), _, rfl, _, rfl, _, rfl, np_of ⟨t, rfl, h1, _, _, rfl, rfl, sz _ (by omega), hQ⟩⟩⟩
      generalize hZ4 : cutS t none (some ra) ++ cutS t (some ra) (some (ra + 1)) ++ cutS t (some ra) none = Z4 at e6
      have k5 : Kp q H4 (upd H4 q (.lst ([.str Z1, .str Z2, .str Z3] ++ [.str Z4]))) := upd_kp
      have c5 : (upd H4 q (.lst ([.str Z1, .str Z2, .str Z3] ++ [.str Z4]))) q = some (.lst [.str Z1, .str Z2, .str Z3, .str Z4]) := upd_same
      have pn5 : Dr H (upd H4 q (.lst ([.str Z1, .str Z2, .str Z3] ++ [.str Z4]))) d l ms n n3 L3 (1 + (1 + 1)) := (y13.same s4).upd p (y13.fr hq)
      obtain ⟨y, hy, hat, _⟩ := atI_of (xs := [V.str Z1, V.str Z2, V.str Z3, V.str Z4]) w0 (by show rw < 4; exact hw4)
      refine ⟨_, rfl, _, rfl, q, _, _, y, rfl, rfl, SqL.of c5, hat, ?_⟩
      simp only [List.mem_cons, List.mem_nil_iff, or_false] at hy
      rcases hy with rfl | rfl | rfl | rfl
      · exact k Z1 n3 L3 _ (by omega) (pn5.wk (by decide))
      · exact k Z2 n3 L3 _ (by omega) (pn5.wk (by decide))
      · exact k Z3 n3 L3 _ (by omega) (pn5.wk (by decide))
      · exact k Z4 n3 L3 _ (by omega) (pn5.wk (by decide))
    · refine iteB0 (decide_eq_false hw4) (nxt_of ?_)
      obtain ⟨hne, htot⟩ := split_all t
      refine asg_n ⟨_, rfl, rfl, t, " ", rfl, rfl, by decide +kernel, by rw [sizeLine_eq]; omega, fun q hq => ?_⟩
      generalize Txt.split t " " = ws at hne htot ⊢
      have hwl := (tot_len ws).1
      have hw0 : 0 < ws.length := List.length_pos_iff.mpr hne
      have s4 : Same H3 (upd H3 q (.lst (ws.map V.str))) := Same.new (Same.refl _) hq
      have c4 : (upd H3 q (.lst (ws.map V.str))) q = some (.lst (ws.map V.str)) := upd_same
      have hq0 := y13.fr hq
      generalize upd H3 q (.lst (ws.map V.str)) = H4 at s4 c4 ⊢
      have p4 := y3.pn.same s4
      have nq : ∀ {H' : Hp} {b : Addr} {xs : List V} {n' L' : Int}, Pen H' d l ms n' L' → H' b = some (.lst xs) → b ≠ d := fun pp e => ne_of e pp.dc (by intro z; cases z)
      refine par_of2 (cons_of (rd_dr (m := ((ws.map V.str).length : Int)) rfl (fun _ h => ⟨_, rfl, q, _, rfl, .inl (SqL.of c4), h⟩) p4 (by omega) (by rw [List.length_map]; omega) (by rw [List.length_map]; omega) fun r1 n5 L5 H5 o0 o1 y5 => ?_))
      have b5 := y5.hi
      have c5 := y5.kp _ _ c4 (nq p4 c4)
      refine cons_of (rd_dr (m := ((ws.map V.str).length : Int)) rfl (fun _ h => ⟨_, rfl, q, _, rfl, .inl (SqL.of c5), h⟩) y5.pn (by omega) (by rw [List.length_map]; omega) (by rw [List.length_map]; omega) fun r2 n6 L6 H6 q0 q1 y6 => ⟨_, _, rfl, ?_⟩)
      have b6 := y6.hi
      have c6 := y6.kp _ _ c5 (nq y5.pn c5)
      rw [List.length_map] at o1 q1
      have y16 : Dr H H6 d l ms n n6 L6 (1 + (1 + 1) + (1 + 1)) := (y13.same s4).trans (y5.trans y6)
      obtain ⟨w1', hw1m, hat1, hg1⟩ := atI_of (xs := ws.map V.str) o0 (by rw [List.length_map]; exact o1)
      obtain ⟨w2', hw2m, hat2, hg2⟩ := atI_of (xs := ws.map V.str) q0 (by rw [List.length_map]; exact q1)
      rw [List.getElem?_map] at hg1 hg2
      obtain ⟨x1, hx1, rfl⟩ := Option.map_eq_some_iff.mp hg1
      obtain ⟨x2, hx2, rfl⟩ := Option.map_eq_some_iff.mp hg2
      have m1 := mem_tot (List.mem_of_getElem? hx1)
      have m2 := mem_tot (List.mem_of_getElem? hx2)
      have tk1 := tot_take ws r1.toNat
      have tk2 := tot_drop_succ ws r1.toNat
      have ltk : (ws.take r1.toNat).length ≤ ws.length := List.length_take_le' _ _
      have ldr : ∀ j, (ws.drop j).length ≤ ws.length := fun j => by rw [List.length_drop]; omega
      -- way 4
      refine ⟨_, rfl, rfl, _, rfl, ?_⟩
      by_cases h4 : rw = 4
      · refine iteB1 (decide_eq_true (by rw [h4])) ⟨⟨_, rfl⟩, opS_of ⟨_, rfl, np_of ⟨_, rfl, _, rfl, rd_slTo c6 o0 (by omega) fun p7 H7 s7 n7 c7 => ?_⟩⟩⟩
        refine ⟨_, rfl, _, rfl, _, _, rfl, rfl, _, rfl, np_of (rd_slFrom (s7 _ _ c6) (by omega) (by omega) fun p8 H8 s8 n8 c8 => rd_catS (s8 _ _ c7) c8 (by have := ldr (r1 + 1).toNat; omega) fun p9 H9 s9 n9 c9 => ?_)⟩
        have e8 : (r1 + 1).toNat = r1.toNat + 1 := by omega
        rw [e8] at c9
        refine rd_jn c9 (by rw [tot_app]; omega) (k _ n6 L6 H9 ?_ ((y16.same (s7.trans (s8.trans s9))).wk (by decide)))
        have := jn_le (ws.take r1.toNat ++ ws.drop (r1.toNat + 1))
        rw [tot_app] at this
        omega
      refine iteB0 (decide_eq_false fun z => h4 (V.int.inj z)) (nxt_of ?_)
      -- way 5
      refine ⟨_, rfl, rfl, _, rfl, ?_⟩
      by_cases h5 : rw = 5
      · refine iteB1 (decide_eq_true (by rw [h5])) ⟨⟨_, rfl⟩, opS_of (opS_of ⟨_, rfl, np_of ⟨_, rfl, _, rfl, rd_slTo c6 o0 (by omega) fun p7 H7 s7 n7 c7 => ?_⟩⟩)⟩
        refine ⟨_, rfl, _, rfl, q, _, _, _, rfl, rfl, SqL.of (s7 _ _ c6), hat2, by show 1 ≤ sizeLine; decide, fun pa hpa => ?_⟩
        have sa : Same H7 (upd H7 pa (.lst [.str x2])) := Same.new (Same.refl _) hpa
        have ca : (upd H7 pa (.lst [.str x2])) pa = some (.lst ([x2].map V.str)) := upd_same
        generalize upd H7 pa (.lst [.str x2]) = Ha at sa ca ⊢
        refine rd_catS (sa _ _ c7) ca (by show (ws.take r1.toNat).length + 1 ≤ _; omega) fun pb Hb sb nb cb => ?_
        refine ⟨_, rfl, _, rfl, _, rfl, np_of (rd_slFrom (sb _ _ (sa _ _ (s7 _ _ c6))) o0 (by omega) fun p8 H8 s8 n8 c8 => rd_catS (s8 _ _ cb) c8 (by rw [List.length_append]; have := ldr r1.toNat; show (ws.take r1.toNat).length + 1 + _ ≤ _; omega) fun p9 H9 s9 n9 c9 => ?_)⟩
        have et : tot (ws.take r1.toNat ++ [x2] ++ ws.drop r1.toNat) = tot ws + (x2.length + 1) := by
          rw [tot_app, tot_app, tot_cons, tot_nil]; omega
        refine rd_jn c9 (by rw [et]; omega) (k _ n6 L6 H9 ?_ ((y16.same (s7.trans (sa.trans (sb.trans (s8.trans s9))))).wk (by decide)))
        have := jn_le (ws.take r1.toNat ++ [x2] ++ ws.drop r1.toNat)
        omega
      refine iteB0 (decide_eq_false fun z => h5 (V.int.inj z)) (nxt_of ?_)
      -- odd
      refine asg_n ⟨by show 12 ≤ sizeLine; decide, fun u1 hu1 => ?_⟩
      have s7 : Same H6 (upd H6 u1 (.lst (([("(" : Str), ")", "[", "]", "<", ">", "-", "0", "-0", "007", "1001", "1000000001"]).map V.str))) := Same.new (Same.refl _) hu1
      have c7 : (upd H6 u1 (.lst (([("(" : Str), ")", "[", "]", "<", ">", "-", "0", "-0", "007", "1001", "1000000001"]).map V.str))) u1 = some (.lst (([("(" : Str), ")", "[", "]", "<", ">", "-", "0", "-0", "007", "1001", "1000000001"]).map V.str)) := upd_same
      have hoA : ∀ x ∈ ([("(" : Str), ")", "[", "]", "<", ">", "-", "0", "-0", "007", "1001", "1000000001"] ++ [("say" : Str), "echo", "A", "", "none"]), x.length ≤ 10 := by decide +kernel
      have hoL : ([("(" : Str), ")", "[", "]", "<", ">", "-", "0", "-0", "007", "1001", "1000000001"] ++ [("say" : Str), "echo", "A", "", "none"]).length = 17 := rfl
      have hoB : ([("(" : Str), ")", "[", "]", "<", ">", "-", "0", "-0", "007", "1001", "1000000001"]).length = 12 := rfl
      change tSeq _ _ _ _ (upd H6 u1 (.lst (([("(" : Str), ")", "[", "]", "<", ">", "-", "0", "-0", "007", "1001", "1000000001"]).map V.str)))
      generalize ([("(" : Str), ")", "[", "]", "<", ">", "-", "0", "-0", "007", "1001", "1000000001"]) = oA at s7 c7 hoA hoL hoB ⊢
      generalize upd H6 u1 (.lst (oA.map V.str)) = H7 at s7 c7 ⊢
      refine asg_n ⟨_, rfl, by show 5 ≤ sizeLine; decide, fun u2 hu2 => ?_⟩
      have s8 : Same H7 (upd H7 u2 (.lst (([("say" : Str), "echo", "A", "", "none"]).map V.str))) := Same.new (Same.refl _) hu2
      have c8 : (upd H7 u2 (.lst (([("say" : Str), "echo", "A", "", "none"]).map V.str))) u2 = some (.lst (([("say" : Str), "echo", "A", "", "none"]).map V.str)) := upd_same
      change rCat _ _ (upd H7 u2 (.lst (([("say" : Str), "echo", "A", "", "none"]).map V.str))) _
      generalize upd H7 u2 (.lst (([("say" : Str), "echo", "A", "", "none"]).map V.str)) = H8 at s8 c8 ⊢
      refine rd_catS (s8 _ _ c7) c8 (by rw [hoB]; show 12 + 5 ≤ _; decide) fun u3 H9 s9 n9 c9 => ?_
      generalize oA ++ [("say" : Str), "echo", "A", "", "none"] = oO at hoA hoL c9
      have s69 := s7.trans (s8.trans s9)
      have y19 := y16.same s69
      have c9q := s69 _ _ c6
      have p9 := y19.pn
      refine ⟨_, rfl, rfl, _, rfl, ?_⟩
      by_cases h6 : rw = 6
      · refine iteB1 (decide_eq_true (by rw [h6])) (asg_n ⟨_, rfl, _, rfl, q, _, _, _, rfl, rfl, SqL.of c9q, hat1, ?_⟩)
        have hl : ((ws.map V.str).length : Int) = ws.length := by rw [List.length_map]
        refine ⟨_, rfl, _, rfl, q, _, _, _, rfl, rfl, SqL.of c9q, hat2, _, rfl, _, rfl, q, _, _, r1.toNat, rfl, rfl, c9q, ixN_of o0 (by omega), ?_⟩
        rw [map_setS]
        have cA : (upd H9 q (.lst ((ws.set r1.toNat x2).map V.str))) q = some (.lst ((ws.set r1.toNat x2).map V.str)) := upd_same
        have yA : Dr H (upd H9 q (.lst ((ws.set r1.toNat x2).map V.str))) d l ms n n6 L6 (1 + (1 + 1) + (1 + 1)) := y19.upd p hq0
        generalize upd H9 q (.lst ((ws.set r1.toNat x2).map V.str)) = HA at cA yA ⊢
        have hlA : (((ws.set r1.toNat x2).map V.str).length : Int) = ws.length := by rw [List.length_map, List.length_set]
        refine ⟨_, rfl, _, rfl, _, rfl, q, _, _, r2.toNat, rfl, rfl, cA, ixN_of q0 (by omega), ?_⟩
        rw [map_setS]
        have cB : (upd HA q (.lst (((ws.set r1.toNat x2).set r2.toNat x1).map V.str))) q = some (.lst (((ws.set r1.toNat x2).set r2.toNat x1).map V.str)) := upd_same
        have yB : Dr H (upd HA q (.lst (((ws.set r1.toNat x2).set r2.toNat x1).map V.str))) d l ms n n6 L6 (1 + (1 + 1) + (1 + 1)) := yA.upd p hq0
        generalize upd HA q (.lst (((ws.set r1.toNat x2).set r2.toNat x1).map V.str)) = HB at cB yB ⊢
        have t1 := tot_set x2 hx1
        have hx2' : (ws.set r1.toNat x2)[r2.toNat]? = some x2 := by
          by_cases e : r1.toNat = r2.toNat
          · rw [← e, List.getElem?_set_self (List.getElem?_eq_some_iff.mp hx1).1]
          · rw [List.getElem?_set_ne e]; exact hx2
        have t2 := tot_set x1 hx2'
        refine ⟨⟨_, rfl⟩, _, rfl, rd_jn cB (by omega) (k _ n6 L6 HB ?_ (yB.wk (by decide)))⟩
        have := jn_le ((ws.set r1.toNat x2).set r2.toNat x1)
        omega
      · refine iteB0 (decide_eq_false fun z => h6 (V.int.inj z)) ?_
        have hl : ((ws.map V.str).length : Int) = ws.length := by rw [List.length_map]
        refine call_of ⟨_, rfl, _, rfl, d, l, ms, n6, L6, .ref u3, rfl, p9, by omega, .inr ⟨u3, _, rfl, c9, by rw [List.length_map, hoL]; decide, by rw [List.length_map, hoL]; decide, fun x nA LA HA hx yA => ?_⟩⟩
        obtain ⟨xo, hxo, rfl⟩ := List.mem_map.mp hx
        have hxl := hoA xo hxo
        have bA := yA.hi
        have cq := yA.kp _ _ c9q (nq p9 c9q)
        refine ⟨_, rfl, _, rfl, q, _, _, r1.toNat, rfl, rfl, cq, ixN_of o0 (by omega), ?_⟩
        rw [map_setS]
        have cB : (upd HA q (.lst ((ws.set r1.toNat xo).map V.str))) q = some (.lst ((ws.set r1.toNat xo).map V.str)) := upd_same
        have yB : Dr H (upd HA q (.lst ((ws.set r1.toNat xo).map V.str))) d l ms n nA LA (1 + (1 + 1) + (1 + 1) + 1) := (y19.trans yA).upd p hq0
        generalize upd HA q (.lst ((ws.set r1.toNat xo).map V.str)) = HB at cB yB ⊢
        have t1 := tot_set xo hx1
        refine ⟨⟨_, rfl⟩, _, rfl, rd_jn cB (by omega) (k _ nA LA HB ?_ (yB.wk (by decide)))⟩
        have := jn_le (ws.set r1.toNat xo)
        omega
end
end My

set_option Elab.async false
set_option linter.all false
set_option maxRecDepth 100000
set_option maxHeartbeats 20000000
namespace My
open PySem L2
theorem op_mulS {X : Cx} : OpR X (binaryOp .Mult) (fun x y H Q => ∃ (z : Str) (k : Int), x = .str z ∧ y = .int k ∧ 2 ≤ k ∧ k ≤ 100 ∧ 1 ≤ z.length ∧ z.length ≤ 100 ∧ (⟨(List.replicate k.toNat z.cps).foldl (· ++ ·) #[]⟩ : Str).length ≤ sizeLine ∧ Q (.str ⟨(List.replicate k.toNat z.cps).foldl (· ++ ·) #[]⟩) H) := by
  intro pins s σ H x y v u Q I rx ry h
  obtain ⟨z, k, rfl, rfl, h1, h2, h3, h4, h5, q⟩ := h
  obtain ⟨t, rfl⟩ := rx
  obtain ⟨t', rfl⟩ := ry
  have hl : z.length * k.toNat ≤ 10000 := Nat.le_trans (Nat.mul_le_mul h4 (show k.toNat ≤ 100 by omega)) (by decide)
  have hk : ¬ k < 1 := by omega
  have hk1 : (k == 1 || z.length == 0) = false := by
    rw [Bool.or_eq_false_iff, beq_eq_false_iff_ne, beq_eq_false_iff_ne]
    exact ⟨by omega, by omega⟩
  refine PySem.P.mul_str ?_ (fun _ _ => ?_) (fun _ _ => ?_) ?_
  · rw [decide_eq_false (by omega), decide_eq_false (by omega)]; rfl
  · have : (1000 : Int) ≤ (2 ^ 63 - 1) / k := Int.le_ediv_of_mul_le (by omega) (by omega)
    omega
  · exact decide_eq_false (Nat.not_lt.mpr (Nat.le_trans hl (by decide)))
  · rw [if_neg hk, if_neg (by rw [hk1]; decide)]
    exact ⟨h5, ⟨.str _, H, I.tok _, ⟨_, rfl⟩, q⟩⟩
/-! ### how scripts are shown -/
structure Shn (d : PyData) : Prop where
  sh : d.showable = true
  le : d.shown.length + 2 ≤ 14 * szD d
theorem shn_leaf {d : PyData} (h : leafW d = true) : Shn d := by
  cases d with
  | none => exact ⟨rfl, by decide +kernel⟩
  | int i =>
    refine ⟨decide_eq_true (log_small (of_decide_eq_true h)), ?_⟩
    have := leaf_len h
    rw [← TL.len_tl] at this
    show (leafT (.int i)).length + 2 ≤ 14 * 1
    have e : szD (.int i) = 1 := rfl
    omega
  | str x =>
    refine ⟨rfl, ?_⟩
    obtain ⟨a1, _, a3⟩ := isWd_let h
    have h2 := StrLaws.reprText_len x fun c hc => Nat.lt_of_le_of_lt (a1 c hc).2 (by decide)
    show (reprText x).length + 2 ≤ 14 * (1 + x.length)
    omega
  | _ => cases h
theorem shn_tup : ∀ {ds : List PyData}, (∀ e ∈ ds, Shn e) → Shn (.tuple ds) := by
  intro ds h
  have key : ∀ ds : List PyData, (∀ e ∈ ds, Shn e) → PyData.showableAll ds = true ∧ ((PyData.shownAll ds).map (·.length)).sum + 2 * (PyData.shownAll ds).length ≤ 14 * szL ds := by
    intro ds
    induction ds with
    | nil => exact fun _ => ⟨rfl, Nat.le_refl _⟩
    | cons e r ih =>
      intro h
      obtain ⟨h1, h2⟩ := ih fun z hz => h z (List.mem_cons_of_mem _ hz)
      obtain ⟨g1, g2⟩ := h e (List.mem_cons_self ..)
      refine ⟨by rw [PyData.showableAll, g1, h1]; rfl, ?_⟩
      rw [PyData.shownAll, List.map_cons, List.sum_cons, List.length_cons, szL]
      omega
  obtain ⟨h1, h2⟩ := key ds h
  refine ⟨by rw [PyData.showable]; exact h1, ?_⟩
  rw [PyData.shown, szD]
  have := tupleText_len_le (PyData.shownAll ds)
  omega
theorem tree_w {R : PyData → Prop} (hl : ∀ d, leafW d = true → R d) (ht : ∀ ds, (∀ e ∈ ds, R e) → R (.tuple ds)) : ∀ (n : Nat) {d : PyData}, isW n d = true → R d
  | 0, d, h => by
    have nd : ∀ ds, d ≠ .tuple ds := fun ds z => by rw [z] at h; exact absurd h (by simp [isW])
    rw [isW_leaf nd] at h
    exact hl _ h
  | n + 1, d, h => by
    rcases @notTup d with ⟨ds, rfl⟩ | nd
    · obtain ⟨m, em, _, kd⟩ := isW_tup h
      cases em
      exact ht _ fun e he => tree_w hl ht n (kd e he)
    · rw [isW_leaf nd] at h
      exact hl _ h
theorem tree_parts {R : PyData → Prop} (hl : ∀ d, leafW d = true → R d) (ht : ∀ ds, (∀ e ∈ ds, R e) → R (.tuple ds)) {n : Nat} (S : ∀ d c, cnt n d = some c → R d) : ∀ (ks : List Kd) (ps : List PyData) (c : Nat), ps.length = ks.length → sumO (List.zipWith (partB (cnt n)) ks ps) = some c → ∀ p ∈ ps, R p
  | [], [], _, _, _, p, hp => nomatch hp
  | [], _ :: _, _, hn, _, _, _ => by simp at hn
  | _ :: _, [], _, hn, _, _, _ => by simp at hn
  | k :: ks, q :: ps, c, hn, h, p, hp => by
    rw [List.zipWith_cons_cons] at h
    cases hq : partB (cnt n) k q with
    | none => rw [hq] at h; cases h
    | some a =>
      rw [hq] at h
      obtain ⟨b', hb', _⟩ := Option.map_eq_some_iff.mp (show (sumO (List.zipWith (partB (cnt n)) ks ps)).map (a + ·) = some c from h)
      rcases List.mem_cons.mp hp with rfl | hp
      · unfold partB at hq
        by_cases hk : isScr k = true
        · rw [if_pos hk] at hq
          by_cases hs : k = .s ∧ isNon p = true
          · have : p = .none := by
              have := hs.2
              cases p <;> first | rfl | cases this
            rw [this]
            exact hl _ rfl
          · rw [if_neg hs] at hq
            exact S p a hq
        · rw [if_neg hk] at hq
          by_cases ho : partOk k p = true
          · exact tree_w hl ht 4 (part_isW ho)
          · rw [if_neg ho] at hq; cases hq
      · exact tree_parts hl ht S ks ps b' (by simpa using hn) hb' p hp
theorem tree_s {R : PyData → Prop} (hl : ∀ d, leafW d = true → R d) (ht : ∀ ds, (∀ e ∈ ds, R e) → R (.tuple ds)) : ∀ (n : Nat) (d : PyData) (c : Nat), cnt n d = some c → R d
  | 0, _, _, h => by cases h
  | n + 1, d, c, h => by
    cases d with
    | tuple ds =>
      rw [cnt] at h
      obtain ⟨b, hb, _⟩ := Option.map_eq_some_iff.mp h
      obtain ⟨cs, ecs, _⟩ := sumO_some hb
      refine ht _ fun e he => ?_
      have hm : deedB (cnt n) e ∈ ds.map (deedB (cnt n)) := List.mem_map_of_mem he
      rw [ecs] at hm
      obtain ⟨g, _, hg⟩ := List.mem_map.mp hm
      obtain ⟨x, ps, ks, rfl, hf, hn, hs⟩ := deedB_some hg.symm
      refine ht _ fun p hp => ?_
      rcases List.mem_cons.mp hp with rfl | hp
      · exact hl _ (form_word hf)
      · exact tree_parts hl ht (tree_s hl ht n) ks ps g hn hs p hp
    | _ => cases h
theorem shn_s (n : Nat) (d : PyData) (c : Nat) (h : cnt n d = some c) : Shn d := tree_s (fun _ => shn_leaf) (fun _ => shn_tup) n d c h
/-! ### trees without truths, lists and dicts: alike just where they are the same -/
inductive Pl : PyData → Prop
  | none : Pl .none
  | int (i : Int) : Pl (.int i)
  | str (x : Str) : Pl (.str x)
  | tup {ds : List PyData} : (∀ e ∈ ds, Pl e) → Pl (.tuple ds)
theorem pl_s (n : Nat) (d : PyData) (c : Nat) (h : cnt n d = some c) : Pl d := tree_s (fun d h => by cases d <;> first | exact .none | exact .int _ | exact .str _ | cases h) (fun _ => .tup) n d c h
theorem eqv_pl {d : PyData} (h : Pl d) : ∀ e, Pl e → (PyData.eqv d e = true ↔ d = e) := by
  induction h with
  | none => intro e he; cases he <;> simp [PyData.eqv]
  | int i => intro e he; cases he <;> simp [PyData.eqv]
  | str x => intro e he; cases he <;> simp [PyData.eqv]
  | @tup ds _ ih =>
    intro e he
    cases he with
    | none => simp [PyData.eqv]
    | int i => simp [PyData.eqv]
    | str x => simp [PyData.eqv]
    | @tup es hes =>
      have lists : ∀ ds es : List PyData, (∀ d ∈ ds, ∀ e, Pl e → (PyData.eqv d e = true ↔ d = e)) → (∀ e ∈ es, Pl e) → (PyData.eqvAll ds es = true ↔ ds = es) := by
        intro ds
        induction ds with
        | nil => intro es _ _; cases es <;> simp [PyData.eqvAll]
        | cons d ds ihl =>
          intro es hd he
          cases es with
          | nil => simp [PyData.eqvAll]
          | cons e es =>
            rw [PyData.eqvAll, Bool.and_eq_true, hd d (List.mem_cons_self ..) e (he e (List.mem_cons_self ..)), ihl es (fun z hz => hd z (List.mem_cons_of_mem _ hz)) (fun z hz => he z (List.mem_cons_of_mem _ hz))]
            constructor
            · rintro ⟨rfl, rfl⟩; rfl
            · intro h; exact ⟨(List.cons.inj h).1, (List.cons.inj h).2⟩
      rw [PyData.eqv, lists ds es ih hes]
      constructor
      · rintro rfl; rfl
      · intro h; exact PyData.tuple.inj h
/-- all that repr of a script asks -/
theorem rp_s {c : Nat} {d : PyData} (h : cnt 5 d = some c) (hz : szD d ≤ 1000000) : d.showable = true ∧ d.hasDict = false ∧ d.depth ≤ 60 ∧ d.shown.length ≤ sizeLine := by
  have f := fine_s 5 d c h
  have s := shn_s 5 d c h
  refine ⟨s.sh, PyData.hasDict_of_canLay d f.lay, Nat.le_trans f.dep (by decide), ?_⟩
  have := s.le
  exact Nat.le_trans (show _ ≤ 14000000 by omega) (by decide)
theorem sumO_map_mono {f g : PyData → Option Nat} (h : ∀ d c, f d = some c → g d = some c) : ∀ (ds : List PyData) (c : Nat), sumO (ds.map f) = some c → sumO (ds.map g) = some c
  | [], _, e => e
  | d :: ds, c, e => by
    rw [List.map_cons] at e ⊢
    cases hd : f d with
    | none => rw [hd] at e; cases e
    | some a =>
      rw [hd] at e
      rw [h d a hd]
      obtain ⟨b, hb, rfl⟩ := Option.map_eq_some_iff.mp (show (sumO (ds.map f)).map (a + ·) = some c from e)
      show (sumO (ds.map g)).map (a + ·) = _
      rw [sumO_map_mono h ds b hb]; rfl
theorem partB_mono {f g : PyData → Option Nat} (h : ∀ d c, f d = some c → g d = some c) {k : Kd} {d : PyData} {c : Nat} (e : partB f k d = some c) : partB g k d = some c := by
  unfold partB at e ⊢
  split
  · rename_i hk
    rw [if_pos hk] at e
    split
    · rename_i h2
      rw [if_pos h2] at e; exact e
    · rename_i h2
      rw [if_neg h2] at e; exact h d c e
  · rename_i hk
    rw [if_neg hk] at e; exact e
theorem sumO_zip_mono {f g : PyData → Option Nat} (h : ∀ d c, f d = some c → g d = some c) : ∀ (ks : List Kd) (ds : List PyData) (c : Nat), sumO (List.zipWith (partB f) ks ds) = some c → sumO (List.zipWith (partB g) ks ds) = some c
  | [], _, _, e => e
  | _ :: _, [], _, e => e
  | k :: ks, d :: ds, c, e => by
    rw [List.zipWith_cons_cons] at e ⊢
    cases hd : partB f k d with
    | none => rw [hd] at e; cases e
    | some a =>
      rw [hd] at e
      rw [partB_mono h hd]
      obtain ⟨b, hb, rfl⟩ := Option.map_eq_some_iff.mp (show (sumO (List.zipWith (partB f) ks ds)).map (a + ·) = some c from e)
      show (sumO (List.zipWith (partB g) ks ds)).map (a + ·) = _
      rw [sumO_zip_mono h ks ds b hb]; rfl
theorem deedB_mono {f g : PyData → Option Nat} (h : ∀ d c, f d = some c → g d = some c) (d : PyData) (c : Nat) (e : deedB f d = some c) : deedB g d = some c := by
  unfold deedB at e ⊢
  split
  · rename_i x ps
    simp only at e
    cases hf : formOf x with
    | none => rw [hf] at e; cases e
    | some ks =>
      rw [hf] at e
      simp only at e ⊢
      by_cases hl : ps.length = ks.length
      · rw [if_pos hl] at e ⊢
        exact sumO_zip_mono h ks ps c e
      · rw [if_neg hl] at e; cases e
  · rename_i hn
    split at e
    · rename_i x ps
      exact absurd rfl (hn x ps)
    · cases e
theorem cnt_mono : ∀ {n m : Nat} {d : PyData} {c : Nat}, n ≤ m → cnt n d = some c → cnt m d = some c
  | 0, _, _, _, _, e => by cases e
  | n + 1, 0, _, _, h, _ => absurd h (by omega)
  | n + 1, m + 1, d, c, h, e => by
    cases d with
    | tuple ds =>
      rw [cnt] at e ⊢
      obtain ⟨b, hb, rfl⟩ := Option.map_eq_some_iff.mp e
      rw [sumO_map_mono (fun d c => deedB_mono (fun d c z => cnt_mono (by omega) z) d c) ds b hb]
      rfl
    | _ => cases e
theorem plan_new (v : Int) : mergeK [] [((Sum.inr "left" : Key), V.int v)] = planK v := by simp [mergeK, putK, planK]
theorem mid_of {ts b : TS} {D : Ends} {σ : L2.St} {H : Hp} (M : L2.St → Hp → Prop) (h1 : ∀ N : L2.St → Hp → Prop, (∀ σ' H', M σ' H' → N σ' H') → ts { D with nx := N } σ H) (h2 : ∀ σ' H', M σ' H' → b D σ' H') : tSeq ts b D σ H := h1 (b D) h2
theorem read_sz {t : Str} {ds : List PyData} (h : readD t = some ds) (ht : t.length ≤ 900000) : szD (.tuple ds) ≤ 1000000 := by
  unfold readD at h
  by_cases h0 : t = ""
  · rw [if_pos h0] at h
    cases h
    decide +kernel
  · rw [if_neg h0] at h
    obtain ⟨_, htot⟩ := split_tot h0
    split at h
    · rename_i ds' e
      have hsz := wrun_sz e
      have h1 : szL ds' + 0 ≤ szL [] + 0 + tot (Txt.split t " ") := hsz
      by_cases h2 : isS (.tuple ds') = true ∧ shS 5 (.tuple ds') = t
      · rw [if_pos h2] at h
        cases h
        rw [szL] at h1
        rw [szD]; omega
      · rw [if_neg h2] at h; cases h
    · cases h
def nonD : PyData := .tuple [.str "none", .int 0]
theorem non_ok : nonD.showable = true ∧ nonD.hasDict = false ∧ nonD.depth ≤ 60 ∧ nonD.shown.length ≤ sizeLine := ⟨rfl, rfl, by decide, by decide +kernel⟩
theorem rdL1 {σ : L2.St} {H : Hp} {Q : VK} {x : V} (h : ∀ p H', Same H H' → H' p = some (.lst [x]) → Q (.ref p) H') : tLst (tCons (tC x) tNil) σ H Q := ⟨by show 1 ≤ sizeLine; decide, fun t ht => h t _ (Same.new (Same.refl _) ht) upd_same⟩
def mulT (z : Str) (k : Int) : Str := ⟨(List.replicate k.toNat z.cps).foldl (· ++ ·) #[]⟩
def oT0 : Str := mulT "( " 30
def oT1 : Str := ("( give " : Str) ++ mulT "< " 30
theorem rn {t : Str} (h : (readD t).isNone = true) : readD t = none := Option.isNone_iff_eq_none.mp h
theorem no_a : readD (" " : Str) = none := rn (by decide +kernel)
theorem no_b : readD ("( echo ) " : Str) = none := rn (by decide +kernel)
theorem no_c : readD oT0 = none := rn (by decide +kernel)
theorem no_d : readD oT1 = none := rn (by decide +kernel)
def odA (q0 q1 q2 q4 q5 : Addr) : List V := [.non, .bl true, .int 0, .ref q0, .ref q1, .ref q2, .ref q4, .ref q5, .str " ", .str "( echo ) "]
def odX : List PyData := [.none, .bool true, .int 0, .list [], .list [], .tuple [], .tuple [.tuple [.str "echo"]], .dict [], .str " ", .str "( echo ) ", .str oT0, .str oT1]
def NoR (x : PyData) : Prop := ∀ t, x = .str t → t.length ≤ 900000 ∧ readD t = none
theorem noR_s {t : Str} (h : t.length ≤ 900000) (h2 : readD t = none) : NoR (.str t) := fun t' e => by cases e; exact ⟨h, h2⟩
theorem od_pair {H : Hp} {q0 q1 q2 q3 q4 q5 : Addr} {a0 a1 : List V} (h0 : H q0 = some (.lst a0)) (h1 : H q1 = some (.lst a1)) (h2 : H q2 = some (.tup [])) (h3 : H q3 = some (.tup [.str "echo"])) (h4 : H q4 = some (.tup [.ref q3])) (h5 : H q5 = some (.dK [])) :
    Paired (fun v x => Rep H 2 v x ∧ NoR x) (odA q0 q1 q2 q4 q5 ++ [.str oT0, .str oT1]) odX :=
  .cons ⟨rep_n, fun _ e => nomatch e⟩ (.cons ⟨rep_b _, fun _ e => nomatch e⟩ (.cons ⟨rep_i _, fun _ e => nomatch e⟩ (.cons ⟨rep_l h0, fun _ e => nomatch e⟩ (.cons ⟨rep_l h1, fun _ e => nomatch e⟩ (.cons ⟨rep_t h2 .nil, fun _ e => nomatch e⟩
    (.cons ⟨rep_t h4 (.cons (rep_t h3 (.cons (rep_s _) .nil)) .nil), fun _ e => nomatch e⟩ (.cons ⟨rep_d h5, fun _ e => nomatch e⟩ (.cons ⟨rep_s _, noR_s (by decide +kernel) no_a⟩ (.cons ⟨rep_s _, noR_s (by decide +kernel) no_b⟩ (.cons ⟨rep_s _, noR_s (by decide +kernel) no_c⟩ (.cons ⟨rep_s _, noR_s (by decide +kernel) no_d⟩ .nil)))))))))))
section
variable {P : Program} {w : World} {K : PySem.W.Frag} {mg : Str → Option Value} {pB : Heap}
def spScrU : Sp := fun vs H Q E => ∃ j, j ≤ 4 ∧ spScr j vs H Q E
theorem ok_scrU {f : Addr} {fd : FuncData} (G : ∀ j, FnOk P w K mg pB CX0 (2 * j + 8) f fd ["_law_held", "_law_plan", "_law_within"] (spScr j)) : FnOk P w K mg pB CX0 16 f fd ["_law_held", "_law_plan", "_law_within"] spScrU :=
  ⟨fun vs H Q E ⟨j, _, h⟩ => (G j).len vs H Q E h, fun A outer s H args us vs Q E hr e0 hb r ⟨j, hj, h⟩ => (G j).run A outer s H args us vs Q E (hr.mono (by omega)) e0 hb r h⟩
def spLaw (K : PySem.W.Frag) : Sp := fun vs H Q _ => ∃ (a : Addr) (ns : List Int), vs = [.ref a] ∧ SqL K H a (ns.map V.int) ∧ ∀ H', Q (.bl true) H'
abbrev sLaw : Stmt := top 67
abbrev nLaw : List Str := ["_law_script_here", "_law_held", "_law_k", "_law_right", "_law_turn", "_law_text_here", "_law_due", "_law_odd"]
theorem scLaw : FnScope nLaw ["_law_script_here"] (defScope sLaw) := ⟨rfl, rfl, rfl, by decide +kernel, rfl, by decide +kernel, by decide +kernel⟩
theorem ok_law {f fP fD fS fT fX fR fO : Addr} {fd dP dD dS dT dX dR dO : FuncData} (F : Fun K "law" "law" sLaw f fd)
    (GP : FnOk P w K mg pB CX0 1 fP dP ["_law_script_here"] (spPen K)) (mP : mg "_law_pen" = some (.ref fP)) (kP : PySem.W.keepIn K (.ref fP) = true) (bP : Binds K dP ["_law_script_here"] [])
    (GD : FnOk P w K mg pB CX0 1 fD dD ["_law_held", "_law_many_here"] spDraw) (mD : mg "_law_draw" = some (.ref fD)) (kD : PySem.W.keepIn K (.ref fD) = true) (bD : Binds K dD ["_law_held", "_law_many_here"] [])
    (GS : FnOk P w K mg pB CX0 16 fS dS ["_law_held", "_law_plan", "_law_within"] spScrU) (mS : mg "_law_script" = some (.ref fS)) (kS : PySem.W.keepIn K (.ref fS) = true) (bS : Binds K dS ["_law_held", "_law_plan", "_law_within"] [])
    (GT : FnOk P w K mg pB CX0 11 fT dT ["_law_todo"] (spShS 4)) (mT : mg "_law_text" = some (.ref fT)) (kT : PySem.W.keepIn K (.ref fT) = true) (bT : Binds K dT ["_law_todo"] [])
    (GX : FnOk P w K mg pB CX0 3 fX dX ["_law_held", "_law_text_here"] spSpo) (mX : mg "_law_spoilt" = some (.ref fX)) (kX : PySem.W.keepIn K (.ref fX) = true) (bX : Binds K dX ["_law_held", "_law_text_here"] [])
    (GR : FnOk P w K mg pB CX0 15 fR dR ["_law_text_here"] spLRead) (mR' : mg "_law_read" = some (.ref fR)) (kR : PySem.W.keepIn K (.ref fR) = true) (bR : Binds K dR ["_law_text_here"] [])
    (GO : FnOk P w K mg pB CX0 26 fO dO ["_law_thing"] spTold) (mO : mg "_law_told" = some (.ref fO)) (kO : PySem.W.keepIn K (.ref fO) = true) (bO : Binds K dO ["_law_thing"] [])
    (mR : mg "range" = none) (mRp : mg "repr" = none) : FnG P w K mg pB 27 f fd ["_law_script_here"] (spLaw K) := by
  refine okG F scLaw (fun vs H Q E h => ?_) (fun cdv A outer s H vs Q E hg hr h => ?_)
  · obtain ⟨a, ns, rfl, _⟩ := h
    rfl
  · obtain ⟨a, ns, rfl, hS, k⟩ := h
    have nd := scLaw.nd
    have hr1 : Room 1 _ := hr.mono (by decide)
    have hr3 : Room 3 _ := hr.mono (by decide)
    have hr11 : Room 11 _ := hr.mono (by decide)
    have hr15 : Room 15 _ := hr.mono (by decide)
    have hr16 : Room 16 _ := hr.mono (by decide)
    refine ⟨_, pss_cons (ps_set (i := 1) nd rfl (Or.inl rfl) (pe_call GP hr1 rfl mP kP bP .nil pass0 (pa_cons (pv 0) pa_nil)))
      (pss_cons (ps_for PassesOwn.never rfl (pi_range1 rfl mR (pa_cons pe_int pa_nil)) (pg_name (i := 2) nd rfl (Or.inl rfl))
        (pss_cons (ps_set (i := 3) nd rfl (Or.inl rfl) (pe_call GT hr11 rfl mT kT bT .nil pass0 (pa_cons (pe_call GS hr16 rfl mS kS bS .nil pass0 (pa_cons (pv 1) (pa_cons
            (pe_disp (pps_cons pe_str (pe_ix ix_list (pe_lst (pa_cons pe_int (pa_cons pe_int pa_nil))) (pe_call GD hr1 rfl mD kD bD .nil pass0 (pa_cons (pv 1) (pa_cons pe_int pa_nil))) (fun _ _ => rfl)) pps_nil) (by rfl) (by rfl) (fun z => by cases z) (by decide))
            (pa_cons (pe_op op_add pe_int (pe_call GD hr1 rfl mD kD bD .nil pass0 (pa_cons (pv 1) (pa_cons pe_int pa_nil)))) pa_nil)))) pa_nil)))
        (pss_cons (ps_for PassesOwn.never rfl (pi_range1 rfl mR (pa_cons pe_int pa_nil)) (pg_name (i := 4) nd rfl (Or.inl rfl))
          (pss_cons (ps_set (i := 5) nd rfl (Or.inl rfl) (pe_call GX hr3 rfl mX kX bX .nil pass0 (pa_cons (pv 1) (pa_cons (pv 3) pa_nil))))
          (pss_cons (ps_if (pt_cmpR op_eq (pe_op op_mod (pv 4) pe_int) pe_int (nomark _)) (pss_one (ps_set (i := 5) nd rfl (Or.inl rfl) (pe_call GX hr3 rfl mX kX bX .nil pass0 (pa_cons (pv 1) (pa_cons (pv 5) pa_nil))))) pss_nil)
          (pss_cons (ps_set (i := 6) nd rfl (Or.inl rfl) (pe_call GR hr15 rfl mR' kR bR .nil pass0 (pa_cons (pv 5) pa_nil)))
          (pss_one (ps_if (pt_cmpR op_ne (pe_callB (call_reprL hg hr.units) (by rfl) mRp (by decide +kernel) (pa_cons (pe_call GO hr rfl mO kO bO .nil pass0 (pa_cons (pv 5) pa_nil)) pa_nil))
              (pe_callB (call_reprL hg hr.units) (by rfl) mRp (by decide +kernel) (pa_cons (pe_ifExp (pt_cmp (pc_isN (pv 6))) (pe_tup (pa_cons pe_str (pa_cons pe_int pa_nil))) (pv 6)) pa_nil)) (nomark _)) (pss_one (ps_ret pe_bl)) pss_nil))))))
        (pss_cons (ps_set (i := 7) nd rfl (Or.inl rfl) (pe_lst (pa_cons pe_non (pa_cons pe_bl (pa_cons pe_int (pa_cons (pe_lst pa_nil) (pa_cons (pe_lst (pa_cons pe_str pa_nil)) (pa_cons (pe_tup pa_nil) (pa_cons (pe_tup (pa_cons (pe_tup (pa_cons pe_str pa_nil)) pa_nil)) (pa_cons pe_dnewK (pa_cons pe_str (pa_cons pe_str pa_nil))))))))))))
        (pss_one (ps_if (pt_cmpR (op_neD hr.units) (pe_call GO hr rfl mO kO bO .nil pass0 (pa_cons (pe_ix ix_list (pe_op op_cat (pv 7) (pe_lst (pa_cons (pe_op op_mulS pe_str pe_int) (pa_cons (pe_op op_add_str pe_str (pe_op op_mulS pe_str pe_int)) pa_nil))))
            (pe_call GD hr1 rfl mD kD bD .nil pass0 (pa_cons (pv 1) (pa_cons pe_int pa_nil))) (fun _ _ => rfl)) pa_nil)) (pe_tup (pa_cons pe_str (pa_cons pe_int pa_nil))) (nomark _)) (pss_one (ps_ret pe_bl)) pss_nil))))))
      (pss_one (ps_ret pe_bl))), ?_⟩
    refine asg_n (call_of ⟨_, rfl, a, ns, rfl, hS, fun d l ms H1 hd hl s1 p1 => ?_⟩)
    refine ⟨10, rfl, by decide, by decide, for_range (lo := 0) (n := 10) (fun n σ H2 => ∃ (nn L : Int) (x2 x3 x4 x5 x6 x7 : Option V), σ = [some (.ref a), some (.ref d), x2, x3, x4, x5, x6, x7] ∧ Pen H2 d l ms nn L ∧ nn ≤ 3000000 * (n : Int)) ?_ ?_ ?_⟩
    · exact ⟨0, 0, _, _, _, _, _, _, rfl, p1, by decide⟩
    · rintro n σ H2 hn ⟨nn, L, x2, x3, x4, x5, x6, x7, rfl, pn, hb⟩
      rw [Int.zero_add]
      refine asg_n (call_of (cons_of (call_of ⟨_, rfl, fun dp hdp => ⟨by show 2 ≤ sizeLine; decide, fun u hu => ?_⟩⟩)))
      have sd : Same H2 (L2.upd H2 dp (.dK [])) := Same.new (Same.refl _) hdp
      have su : Same (L2.upd H2 dp (.dK [])) (L2.upd (L2.upd H2 dp (.dK [])) u (.lst [.int 3, .int 30])) := Same.new (Same.refl _) hu
      have cd0 := su _ _ (upd_same (H := H2) (a := dp) (o := .dK []))
      have cu0 : (L2.upd (L2.upd H2 dp (.dK [])) u (.lst [.int 3, .int 30])) u = some (.lst [.int 3, .int 30]) := upd_same
      have s2 := sd.trans su
      have p2 := pn.same s2
      generalize L2.upd (L2.upd H2 dp (.dK [])) u (.lst [.int 3, .int 30]) = J0 at cd0 cu0 s2 p2 ⊢
      have hdpd : dp ≠ d := ne_of cd0 p2.dc (by intro z; have := congrArg List.length (HO.dK.inj z); simp [pen] at this)
      refine rd_dr (m := 2) rfl (fun _ h => h) p2 (by omega) (by decide) (by decide) fun r n1 L1 J1 r0 r1 y1 => ?_
      have b1 := y1.hi
      have cu1 := y1.kp _ _ cu0 (ne_of cu0 p2.dc (by intro z; cases z))
      have cd1 := y1.kp _ _ cd0 hdpd
      obtain ⟨v, hv, hat, _⟩ := atI_of (xs := [V.int 3, V.int 30]) r0 r1
      obtain ⟨left, rfl, lf0, lf1⟩ : ∃ i : Int, v = .int i ∧ 0 ≤ i ∧ i ≤ 30 := by
        simp only [List.mem_cons, List.mem_nil_iff, or_false] at hv
        rcases hv with rfl | rfl <;> exact ⟨_, rfl, by decide, by decide⟩
      refine ⟨u, _, _, _, rfl, rfl, SqL.of cu1, hat, cd1, [(Sum.inr "left", .int left)], rfl, by show 1 ≤ 15; decide, ?_⟩
      rw [plan_new]
      have p3 : Pen (L2.upd J1 dp (.dK (planK left))) d l ms n1 L1 := ⟨by rw [upd_ne (Ne.symm hdpd)]; exact y1.pn.dc, by rw [upd_ne (ne_of y1.pn.ls cd1 (by intro z; cases z))]; exact y1.pn.ls, y1.pn.n0, y1.pn.l0⟩
      have c3 : (L2.upd J1 dp (.dK (planK left))) dp = some (.dK (planK left)) := upd_same
      generalize L2.upd J1 dp (.dK (planK left)) = J2 at p3 c3 ⊢
      refine rd_dr (m := 5) rfl (fun _ h => h) p3 (by omega) (by decide) (by decide) fun r5 n2 L2 J3 q0 q1 y2 => ⟨_, _, rfl, rfl, ?_⟩
      have b2 := y2.hi
      obtain ⟨j, rfl⟩ : ∃ j : Nat, r5 = (j : Int) := ⟨r5.toNat, by omega⟩
      refine ⟨j, by omega, d, l, dp, ms, n2, L2, left, ?_, y2.pn, y2.kp _ _ c3 hdpd, lf0, by omega, fun todo t0 n3 L3 a3 J4 c hR0 hc ec hz0 y3 => ?_⟩
      · show [V.ref d, V.ref dp, V.int (1 + (j : Int))] = [V.ref d, V.ref dp, V.int ((j + 1 : Nat) : Int)]
        rw [show (1 + (j : Int)) = ((j + 1 : Nat) : Int) by omega]
      have b3 := y3.hi
      have hl0 := y3.l0
      have hc5 := cnt_mono (show j + 1 ≤ 5 by omega) hc
      refine ⟨_, todo, t0, c, rfl, hR0, hc5, by omega, by omega, fun J5 s5 => ?_⟩
      have hlenR : (shS 5 t0).length ≤ 216012 := by
        have ht := shDs_len 5 t0 c hc5
        by_cases hs : shDs 5 t0 = []
        · unfold shS; rw [hs]; decide +kernel
        · have := jn_len hs
          unfold shS
          omega
      generalize shS 5 t0 = tR at hlenR
      have p5 := y3.pn.same s5
      -- six turns
      refine ⟨6, rfl, by decide, by decide, for_range (lo := 0) (n := 6) (fun i σ H3 => ∃ (nn L : Int) (x4 x5 x6 : Option V), σ = [some (.ref a), some (.ref d), some (.int (n : Int)), some (.str tR), x4, x5, x6, x7] ∧ Pen H3 d l ms nn L ∧ nn ≤ 3000000 * (n : Int) + 2000000 + 12 * (i : Int)) ?_ ?_ ?_⟩
      · exact ⟨n3, L3, x4, x5, x6, rfl, p5, by omega⟩
      · rintro i σ H3 hi ⟨n4, L4, y4, y5, y6, rfl, p4, hb4⟩
        rw [Int.zero_add]
        refine asg_n (call_of ⟨_, rfl, _, rfl, d, l, ms, n4, L4, tR, rfl, p4, by omega, by omega, fun t1 n5 L5 H5 hl5 z5 => ?_⟩)
        have b5 := z5.hi
        refine mid_of (fun σ' H' => ∃ (t : Str) (n' L' : Int), σ' = [some (.ref a), some (.ref d), some (.int (n : Int)), some (.str tR), some (.int (i : Int)), some (.str t), y6, x7] ∧ t.length ≤ 900000 ∧ Pen H' d l ms n' L' ∧ n' ≤ 3000000 * (n : Int) + 2000000 + 12 * (i : Int) + 12) (fun N hN => ?_) ?_
        · refine ⟨_, rfl, _, _, rfl, rfl, by show (0 : Int) < 2; decide, rfl, _, rfl, ?_⟩
          by_cases ho : (i : Int) % 2 = 1
          · refine iteB1 (decide_eq_true (congrArg V.int ho)) (asg_1 (call_of ⟨_, rfl, _, rfl, d, l, ms, n5, L5, t1, rfl, z5.pn, by omega, by omega, fun t2 n6 L6 H6 hl6 z6 => ?_⟩))
            have b6 := z6.hi
            exact hN _ _ ⟨t2, n6, L6, rfl, by omega, z6.pn, by omega⟩
          · exact iteB0 (decide_eq_false fun z => ho (V.int.inj z)) (hN _ _ ⟨t1, n5, L5, rfl, by omega, z5.pn, by omega⟩)
        rintro σ' H' ⟨t, n', L', rfl, hlt, pp, hb'⟩
        cases hrd : readD t with
        | some ds =>
          obtain ⟨hSd, _⟩ := read_is hrd
          obtain ⟨cd, hcd, hcd2⟩ := isS_cnt hSd
          have hzd : szD (.tuple ds) ≤ 1000000 := read_sz hrd hlt
          obtain ⟨w1, w2, w3, w4⟩ := rp_s hcd hzd
          have fn := fine_s 5 _ cd hcd
          refine asg_n (call_of ⟨_, rfl, t, rfl, hlt, fun ds' e a1 m1 H6 s6 hR6 => ?_, fun e => by rw [hrd] at e; cases e⟩)
          rw [hrd] at e
          cases e
          refine ⟨_, rfl, 0, .str t, .str t, rfl, rfl, fun t' e => by cases e; exact hlt, fun t' ds' e e2 a2 m2 H7 s7 hR7 => ?_, fun hno => absurd hrd (hno t ds rfl)⟩
          cases e
          rw [hrd] at e2
          cases e2
          refine ⟨a2, .tuple ds, rfl, fn.dp K H7 m2 _ hR7, w1, w2, w3, w4, _, rfl, _, rfl, iteB0 rfl ⟨_, rfl, a1, .tuple ds, rfl, fn.dp K H7 m1 _ (hR6.same s7), w1, w2, w3, w4, rfl, _, rfl, iteB0 (by simp) ?_⟩⟩
          exact ⟨n', L', _, _, _, rfl, pp.same (s6.trans s7), by omega⟩
        | none =>
          refine asg_n (call_of ⟨_, rfl, t, rfl, hlt, fun ds' e a1 m1 H6 s6 hR6 => (by rw [hrd] at e; cases e), fun _ H6 s6 => ?_⟩)
          refine ⟨_, rfl, 0, .str t, .str t, rfl, rfl, fun t' e => by cases e; exact hlt, fun t' ds' e e2 a2 m2 H7 s7 hR7 => (by cases e; rw [hrd] at e2; cases e2), fun _ a2 H7 s7 c7 => ?_⟩
          obtain ⟨w1, w2, w3, w4⟩ := non_ok
          refine ⟨a2, nonD, rfl, .tup (SqT.of c7) (.cons (.str _) (.cons (.int _) .nil)), w1, w2, w3, w4, _, rfl, _, rfl, iteB1 rfl ⟨by show 2 ≤ sizeLine; decide, fun t9 ht9 => ?_⟩⟩
          have s8 : Same H7 (upd H7 t9 (.tup [.str "none", .int 0])) := Same.new (Same.refl _) ht9
          refine ⟨t9, nonD, rfl, .tup (SqT.of upd_same) (.cons (.str _) (.cons (.int _) .nil)), w1, w2, w3, w4, rfl, _, rfl, iteB0 (by simp) ?_⟩
          exact ⟨n', L', _, _, _, rfl, pp.same (s6.trans (s7.trans s8)), by omega⟩
      · rintro σ H3 ⟨n4, L4, y4, y5, y6, rfl, p4, hb4⟩
        refine asg_n (lst_of (cons_c (cons_c (cons_c (cons_of (rdL0 fun q0 H0 t0 e0 => cons_of (rdL1 fun q1 H1 t1 e1 => cons_of (rdT0 fun q2 HB t2 e2 => cons_of (rdTT fun q3 q4 HD t4 g4 e4 => cons_of (rdD fun q5 HE t5 e5 => ?_))))))))))
        refine ⟨by show 10 ≤ sizeLine; decide, fun l1 hl1 => ?_⟩
        have z1 : Same HE (upd HE l1 (.lst (odA q0 q1 q2 q4 q5))) := Same.new (Same.refl _) hl1
        have c1 : (upd HE l1 (.lst (odA q0 q1 q2 q4 q5))) l1 = some (.lst (odA q0 q1 q2 q4 q5)) := upd_same
        have u4 := t5.trans z1
        have u2 := t4.trans u4
        have u1 := t2.trans u2
        have u0 := t1.trans u1
        have uA := t0.trans u0
        have pr0 := fun (HX : Hp) (sx : Same (upd HE l1 (.lst (odA q0 q1 q2 q4 q5))) HX) => od_pair (sx _ _ (u0 _ _ e0)) (sx _ _ (u1 _ _ e1)) (sx _ _ (u2 _ _ e2)) (sx _ _ (u4 _ _ g4)) (sx _ _ (u4 _ _ e4)) (sx _ _ (z1 _ _ e5))
        have pA := p4.same uA
        change tIfS _ _ _ _ _ (upd HE l1 (.lst (odA q0 q1 q2 q4 q5)))
        generalize upd HE l1 (.lst (odA q0 q1 q2 q4 q5)) = J6 at pr0 c1 pA ⊢
        refine ⟨_, rfl, ?_⟩
        refine ⟨_, _, rfl, rfl, by decide, by decide, by decide +kernel, by decide +kernel, by decide +kernel, ?_⟩
        refine ⟨_, _, rfl, rfl, by decide, by decide, by decide +kernel, by decide +kernel, by decide +kernel, ?_⟩
        refine ⟨_, _, rfl, rfl, by decide +kernel, ?_⟩
        refine ⟨by show 2 ≤ sizeLine; decide, fun l2 hl2 => ?_⟩
        have z2 : Same J6 (upd J6 l2 (.lst [.str oT0, .str oT1])) := Same.new (Same.refl _) hl2
        have c2 : (upd J6 l2 (.lst [.str oT0, .str oT1])) l2 = some (.lst [.str oT0, .str oT1]) := upd_same
        refine ⟨l1, l2, _, _, rfl, rfl, z2 _ _ c1, c2, by show 12 ≤ sizeLine; decide, fun l3 hl3 => ?_⟩
        have z3 := Same.new (o := .lst (odA q0 q1 q2 q4 q5 ++ [.str oT0, .str oT1])) (Same.refl _) hl3
        have zz := z2.trans z3
        have pr := pr0 _ zz
        have pB := pA.same zz
        have c3 : (upd (upd J6 l2 (.lst [.str oT0, .str oT1])) l3 (.lst (odA q0 q1 q2 q4 q5 ++ [.str oT0, .str oT1]))) l3 = some (.lst (odA q0 q1 q2 q4 q5 ++ [.str oT0, .str oT1])) := upd_same
        refine rd_dr (m := 12) rfl (fun _ h => h) pB (by omega) (by decide) (by decide) fun r n5 L5 HZ r0 r1 x2 => ?_
        have b5 := x2.hi
        have cq := x2.kp _ _ c3 (ne_of c3 pB.dc (by intro z; cases z))
        obtain ⟨v, _, hat, hg'⟩ := atI_of (xs := odA q0 q1 q2 q4 q5 ++ [V.str oT0, V.str oT1]) r0 (show r < ((12 : Nat) : Int) from r1)
        obtain ⟨x, _, hx1, hx2⟩ := Paired.at pr hg'
        refine ⟨l3, _, _, v, rfl, rfl, SqL.of cq, hat, ?_⟩
        refine ⟨2, v, x, rfl, x2.rep pB hx1, fun t e => (hx2 t e).1, fun t ds e e2 a2 m2 H7 s7 hR7 => (by rw [(hx2 t e).2] at e2; cases e2), fun _ a2 H7 s7 c7 => ?_⟩
        refine ⟨by show 2 ≤ sizeLine; decide, fun t9 ht9 => ?_⟩
        have s8 : Same H7 (upd H7 t9 (.tup [.str "none", .int 0])) := Same.new (Same.refl _) ht9
        refine ⟨nonD, nonD, .tup (SqT.of (s8 _ _ c7)) (.cons (.str _) (.cons (.int _) .nil)), .tup (SqT.of upd_same) (.cons (.str _) (.cons (.int _) .nil)), by decide +kernel, by decide +kernel, _, rfl, iteB0 (by decide +kernel) ?_⟩
        exact ⟨n5, L5, _, _, _, _, _, _, rfl, x2.pn.same (s7.trans s8), by omega⟩
    · rintro σ H2 _
      exact k H2
end
end My

set_option Elab.async false
set_option linter.all false
set_option maxRecDepth 100000
set_option maxHeartbeats 4000000
namespace My
open PySem L2
/-- the object is a tuple of these -/
def SqO (o : Obj) (xs : List V) : Prop := ∃ its n, o.cls = .type "tuple" ∧ o.data = .seq its n ∧ its.size ≤ sizeLine ∧ Vals xs its.toList
theorem sqt_of {K : PySem.W.Frag} {H : Hp} {a : Addr} {o : Obj} {xs : List V} (h : K.lookup a = some o) (s : SqO o xs) : SqT K H a xs := by
  obtain ⟨its, n, h1, h2, h3, h4⟩ := s
  exact .inr ⟨o, its, n, h, h1, h2, h3, h4⟩
theorem ent_of {K : PySem.W.Frag} {e : DictEntry} {p : Str × List Kd} {t : Tok} {a : Addr} {o : Obj} (h1 : e.key = .str p.1 t) (h2 : e.val = .ref a) (h3 : K.lookup a = some o) (h4 : SqO o (p.2.map fun k => V.str (kname k))) : EntAt K e p := ⟨⟨t, h1⟩, a, h2, fun H => sqt_of h3 h4⟩
end My

set_option Elab.async false
set_option linter.all false
set_option maxRecDepth 100000
set_option maxHeartbeats 4000000
namespace My
open PySem L2
theorem all_mk {l : PySem.W.OpenLaw} {w : World} {K : PySem.W.Frag} {h : Heap} {mg : Str → Option Value} {fa gisw gbtw gisv gwth gnam grnk gcou ggap gdue gprt giss groo grod gfit gshs gsds gshd gshp gshw gbrk grea gnes gpla gpen gdrw gpck gwrd gwor gfrs glpt gscr gfrm glwd glwt glip gmny glsc gshn gltx gatm glne glrd gspo gtld glaw : Addr} {rA1 rA2 rA3 dA cA kA oA qA xA iA : Addr} {oO oQ : Obj} {esD esC : Array DictEntry} {nD nC : Nat} {oS : Obj} {xnm xq : Str} {xN : Addr} {xbs : List Value} {xsn : List Str} {xsub : List Value} {xab : Bool} {xcol : Option Bool} {xdd : Option Addr} {xm0 xm1 xm2 xm3 xm5 : Option Value} {xod xan : Option Addr} {xsl : Array (Option Value)} {xoc xkV xdc xpm xcd xct : Value} (X : K.In h) (G : h.Ns mainGlobals mg) (hfa : mg "law" = some (.ref fa))
    {odisw anisw odbtw anbtw odisv anisv odwth anwth odnam annam odrnk anrnk odcou ancou odgap angap oddue andue odprt anprt odiss aniss odroo anroo odrod anrod odfit anfit odshs anshs odsds ansds odshd anshd odshp anshp odshw anshw odbrk anbrk odrea anrea odnes annes odpla anpla odpen anpen oddrw andrw odpck anpck odwrd anwrd odwor anwor odfrs anfrs odlpt anlpt odscr anscr odfrm anfrm odlwd anlwd odlwt anlwt odlip anlip odmny anmny odlsc anlsc odshn anshn odltx anltx odatm anatm odlne anlne odlrd anlrd odspo anspo odtld antld odlaw anlaw : Option Addr} {slisw slbtw slisv slwth slnam slrnk slcou slgap sldue slprt sliss slroo slrod slfit slshs slsds slshd slshp slshw slbrk slrea slnes slpla slpen sldrw slpck slwrd slwor slfrs sllpt slscr slfrm sllwd sllwt sllip slmny sllsc slshn slltx slatm sllne sllrd slspo sltld sllaw : Array (Option Value)} {ocisw kVisw dcisw pmisw cdisw ctisw ocbtw kVbtw dcbtw pmbtw cdbtw ctbtw ocisv kVisv dcisv pmisv cdisv ctisv ocwth kVwth dcwth pmwth cdwth ctwth ocnam kVnam dcnam pmnam cdnam ctnam ocrnk kVrnk dcrnk pmrnk cdrnk ctrnk occou kVcou dccou pmcou cdcou ctcou ocgap kVgap dcgap pmgap cdgap ctgap ocdue kVdue dcdue pmdue cddue ctdue ocprt kVprt dcprt pmprt cdprt ctprt ociss kViss dciss pmiss cdiss ctiss ocroo kVroo dcroo pmroo cdroo ctroo ocrod kVrod dcrod pmrod cdrod ctrod ocfit kVfit dcfit pmfit cdfit ctfit ocshs kVshs dcshs pmshs cdshs ctshs ocsds kVsds dcsds pmsds cdsds ctsds ocshd kVshd dcshd pmshd cdshd ctshd ocshp kVshp dcshp pmshp cdshp ctshp ocshw kVshw dcshw pmshw cdshw ctshw ocbrk kVbrk dcbrk pmbrk cdbrk ctbrk ocrea kVrea dcrea pmrea cdrea ctrea ocnes kVnes dcnes pmnes cdnes ctnes ocpla kVpla dcpla pmpla cdpla ctpla ocpen kVpen dcpen pmpen cdpen ctpen ocdrw kVdrw dcdrw pmdrw cddrw ctdrw ocpck kVpck dcpck pmpck cdpck ctpck ocwrd kVwrd dcwrd pmwrd cdwrd ctwrd ocwor kVwor dcwor pmwor cdwor ctwor ocfrs kVfrs dcfrs pmfrs cdfrs ctfrs oclpt kVlpt dclpt pmlpt cdlpt ctlpt ocscr kVscr dcscr pmscr cdscr ctscr ocfrm kVfrm dcfrm pmfrm cdfrm ctfrm oclwd kVlwd dclwd pmlwd cdlwd ctlwd oclwt kVlwt dclwt pmlwt cdlwt ctlwt oclip kVlip dclip pmlip cdlip ctlip ocmny kVmny dcmny pmmny cdmny ctmny oclsc kVlsc dclsc pmlsc cdlsc ctlsc ocshn kVshn dcshn pmshn cdshn ctshn ocltx kVltx dcltx pmltx cdltx ctltx ocatm kVatm dcatm pmatm cdatm ctatm oclne kVlne dclne pmlne cdlne ctlne oclrd kVlrd dclrd pmlrd cdlrd ctlrd ocspo kVspo dcspo pmspo cdspo ctspo octld kVtld dctld pmtld cdtld cttld oclaw kVlaw dclaw pmlaw cdlaw ctlaw : Value} {tkMOST_LETTERS tkFARTHEST tkMOST_WORTHS tkWORTH_LEVELS tkLAST_RANK tkMOST_COUNT tkMOST_NAMES tkMOST_DEEDS tkSCRIPT_LEVELS tkMOST_FIGURES : Tok}
    (aisw : PySem.W.nsIn K mainGlobals "is_word" = some (some (.ref gisw))) (lisw : K.lookup gisw = some ⟨ocisw, odisw, .func (PySem.W.fnOf "is_word" "is_word" (defArgs sIsWord) (defBody sIsWord) (defScope sIsWord) .none kVisw dcisw pmisw anisw cdisw ctisw), slisw⟩) (cisw : PySem.W.codeIn K cdisw "is_word" = true) (kisw : PySem.W.keepIn K (.ref gisw) = true)
    (abtw : PySem.W.nsIn K mainGlobals "is_between" = some (some (.ref gbtw))) (lbtw : K.lookup gbtw = some ⟨ocbtw, odbtw, .func (PySem.W.fnOf "is_between" "is_between" (defArgs sBtw) (defBody sBtw) (defScope sBtw) .none kVbtw dcbtw pmbtw anbtw cdbtw ctbtw), slbtw⟩) (cbtw : PySem.W.codeIn K cdbtw "is_between" = true) (kbtw : PySem.W.keepIn K (.ref gbtw) = true)
    (aisv : PySem.W.nsIn K mainGlobals "is_worth" = some (some (.ref gisv))) (lisv : K.lookup gisv = some ⟨ocisv, odisv, .func (PySem.W.fnOf "is_worth" "is_worth" (defArgs sIsWorth) (defBody sIsWorth) (defScope sIsWorth) .none kVisv dcisv pmisv anisv cdisv ctisv), slisv⟩) (cisv : PySem.W.codeIn K cdisv "is_worth" = true) (kisv : PySem.W.keepIn K (.ref gisv) = true)
    (awth : PySem.W.nsIn K mainGlobals "is_worth_within" = some (some (.ref gwth))) (lwth : K.lookup gwth = some ⟨ocwth, odwth, .func (PySem.W.fnOf "is_worth_within" "is_worth_within" (defArgs sWth) (defBody sWth) (defScope sWth) .none kVwth dcwth pmwth anwth cdwth ctwth), slwth⟩) (cwth : PySem.W.codeIn K cdwth "is_worth_within" = true) (kwth : PySem.W.keepIn K (.ref gwth) = true)
    (anam : PySem.W.nsIn K mainGlobals "is_names" = some (some (.ref gnam))) (lnam : K.lookup gnam = some ⟨ocnam, odnam, .func (PySem.W.fnOf "is_names" "is_names" (defArgs sNames) (defBody sNames) (defScope sNames) .none kVnam dcnam pmnam annam cdnam ctnam), slnam⟩) (cnam : PySem.W.codeIn K cdnam "is_names" = true) (knam : PySem.W.keepIn K (.ref gnam) = true)
    (arnk : PySem.W.nsIn K mainGlobals "is_rank" = some (some (.ref grnk))) (lrnk : K.lookup grnk = some ⟨ocrnk, odrnk, .func (PySem.W.fnOf "is_rank" "is_rank" (defArgs sRank) (defBody sRank) (defScope sRank) .none kVrnk dcrnk pmrnk anrnk cdrnk ctrnk), slrnk⟩) (crnk : PySem.W.codeIn K cdrnk "is_rank" = true) (krnk : PySem.W.keepIn K (.ref grnk) = true)
    (acou : PySem.W.nsIn K mainGlobals "is_count" = some (some (.ref gcou))) (lcou : K.lookup gcou = some ⟨occou, odcou, .func (PySem.W.fnOf "is_count" "is_count" (defArgs sCount) (defBody sCount) (defScope sCount) .none kVcou dccou pmcou ancou cdcou ctcou), slcou⟩) (ccou : PySem.W.codeIn K cdcou "is_count" = true) (kcou : PySem.W.keepIn K (.ref gcou) = true)
    (agap : PySem.W.nsIn K mainGlobals "is_gap" = some (some (.ref ggap))) (lgap : K.lookup ggap = some ⟨ocgap, odgap, .func (PySem.W.fnOf "is_gap" "is_gap" (defArgs sGap) (defBody sGap) (defScope sGap) .none kVgap dcgap pmgap angap cdgap ctgap), slgap⟩) (cgap : PySem.W.codeIn K cdgap "is_gap" = true) (kgap : PySem.W.keepIn K (.ref ggap) = true)
    (adue : PySem.W.nsIn K mainGlobals "is_due" = some (some (.ref gdue))) (ldue : K.lookup gdue = some ⟨ocdue, oddue, .func (PySem.W.fnOf "is_due" "is_due" (defArgs sDue) (defBody sDue) (defScope sDue) .none kVdue dcdue pmdue andue cddue ctdue), sldue⟩) (cdue : PySem.W.codeIn K cddue "is_due" = true) (kdue : PySem.W.keepIn K (.ref gdue) = true)
    (aprt : PySem.W.nsIn K mainGlobals "parts_of" = some (some (.ref gprt))) (lprt : K.lookup gprt = some ⟨ocprt, odprt, .func (PySem.W.fnOf "parts_of" "parts_of" (defArgs sParts) (defBody sParts) (defScope sParts) .none kVprt dcprt pmprt anprt cdprt ctprt), slprt⟩) (cprt : PySem.W.codeIn K cdprt "parts_of" = true) (kprt : PySem.W.keepIn K (.ref gprt) = true)
    (aiss : PySem.W.nsIn K mainGlobals "is_script" = some (some (.ref giss))) (liss : K.lookup giss = some ⟨ociss, odiss, .func (PySem.W.fnOf "is_script" "is_script" (defArgs sIsScript) (defBody sIsScript) (defScope sIsScript) .none kViss dciss pmiss aniss cdiss ctiss), sliss⟩) (ciss : PySem.W.codeIn K cdiss "is_script" = true) (kiss : PySem.W.keepIn K (.ref giss) = true)
    (aroo : PySem.W.nsIn K mainGlobals "room_behind" = some (some (.ref groo))) (lroo : K.lookup groo = some ⟨ocroo, odroo, .func (PySem.W.fnOf "room_behind" "room_behind" (defArgs sRoom) (defBody sRoom) (defScope sRoom) .none kVroo dcroo pmroo anroo cdroo ctroo), slroo⟩) (croo : PySem.W.codeIn K cdroo "room_behind" = true) (kroo : PySem.W.keepIn K (.ref groo) = true)
    (arod : PySem.W.nsIn K mainGlobals "room_behind_parts" = some (some (.ref grod))) (lrod : K.lookup grod = some ⟨ocrod, odrod, .func (PySem.W.fnOf "room_behind_parts" "room_behind_parts" (defArgs sRoomD) (defBody sRoomD) (defScope sRoomD) .none kVrod dcrod pmrod anrod cdrod ctrod), slrod⟩) (crod : PySem.W.codeIn K cdrod "room_behind_parts" = true) (krod : PySem.W.keepIn K (.ref grod) = true)
    (afit : PySem.W.nsIn K mainGlobals "fits" = some (some (.ref gfit))) (lfit : K.lookup gfit = some ⟨ocfit, odfit, .func (PySem.W.fnOf "fits" "fits" (defArgs sFits) (defBody sFits) (defScope sFits) .none kVfit dcfit pmfit anfit cdfit ctfit), slfit⟩) (cfit : PySem.W.codeIn K cdfit "fits" = true) (kfit : PySem.W.keepIn K (.ref gfit) = true)
    (ashs : PySem.W.nsIn K mainGlobals "show_script" = some (some (.ref gshs))) (lshs : K.lookup gshs = some ⟨ocshs, odshs, .func (PySem.W.fnOf "show_script" "show_script" (defArgs sShS) (defBody sShS) (defScope sShS) .none kVshs dcshs pmshs anshs cdshs ctshs), slshs⟩) (cshs : PySem.W.codeIn K cdshs "show_script" = true) (kshs : PySem.W.keepIn K (.ref gshs) = true)
    (asds : PySem.W.nsIn K mainGlobals "shown_deeds" = some (some (.ref gsds))) (lsds : K.lookup gsds = some ⟨ocsds, odsds, .func (PySem.W.fnOf "shown_deeds" "shown_deeds" (defArgs sSD) (defBody sSD) (defScope sSD) .none kVsds dcsds pmsds ansds cdsds ctsds), slsds⟩) (csds : PySem.W.codeIn K cdsds "shown_deeds" = true) (ksds : PySem.W.keepIn K (.ref gsds) = true)
    (ashd : PySem.W.nsIn K mainGlobals "show_deed" = some (some (.ref gshd))) (lshd : K.lookup gshd = some ⟨ocshd, odshd, .func (PySem.W.fnOf "show_deed" "show_deed" (defArgs sShD) (defBody sShD) (defScope sShD) .none kVshd dcshd pmshd anshd cdshd ctshd), slshd⟩) (cshd : PySem.W.codeIn K cdshd "show_deed" = true) (kshd : PySem.W.keepIn K (.ref gshd) = true)
    (ashp : PySem.W.nsIn K mainGlobals "show_part" = some (some (.ref gshp))) (lshp : K.lookup gshp = some ⟨ocshp, odshp, .func (PySem.W.fnOf "show_part" "show_part" (defArgs sShP) (defBody sShP) (defScope sShP) .none kVshp dcshp pmshp anshp cdshp ctshp), slshp⟩) (cshp : PySem.W.codeIn K cdshp "show_part" = true) (kshp : PySem.W.keepIn K (.ref gshp) = true)
    (ashw : PySem.W.nsIn K mainGlobals "show_worth" = some (some (.ref gshw))) (lshw : K.lookup gshw = some ⟨ocshw, odshw, .func (PySem.W.fnOf "show_worth" "show_worth" (defArgs sShow) (defBody sShow) (defScope sShow) .none kVshw dcshw pmshw anshw cdshw ctshw), slshw⟩) (cshw : PySem.W.codeIn K cdshw "show_worth" = true) (kshw : PySem.W.keepIn K (.ref gshw) = true)
    (abrk : PySem.W.nsIn K mainGlobals "bracketed" = some (some (.ref gbrk))) (lbrk : K.lookup gbrk = some ⟨ocbrk, odbrk, .func (PySem.W.fnOf "bracketed" "bracketed" (defArgs sBr) (defBody sBr) (defScope sBr) .none kVbrk dcbrk pmbrk anbrk cdbrk ctbrk), slbrk⟩) (cbrk : PySem.W.codeIn K cdbrk "bracketed" = true) (kbrk : PySem.W.keepIn K (.ref gbrk) = true)
    (area : PySem.W.nsIn K mainGlobals "read_script" = some (some (.ref grea))) (lrea : K.lookup grea = some ⟨ocrea, odrea, .func (PySem.W.fnOf "read_script" "read_script" (defArgs sRead) (defBody sRead) (defScope sRead) .none kVrea dcrea pmrea anrea cdrea ctrea), slrea⟩) (crea : PySem.W.codeIn K cdrea "read_script" = true) (krea : PySem.W.keepIn K (.ref grea) = true)
    (anes : PySem.W.nsIn K mainGlobals "nested" = some (some (.ref gnes))) (lnes : K.lookup gnes = some ⟨ocnes, odnes, .func (PySem.W.fnOf "nested" "nested" (defArgs sNest) (defBody sNest) (defScope sNest) .none kVnes dcnes pmnes annes cdnes ctnes), slnes⟩) (cnes : PySem.W.codeIn K cdnes "nested" = true) (knes : PySem.W.keepIn K (.ref gnes) = true)
    (apla : PySem.W.nsIn K mainGlobals "plain" = some (some (.ref gpla))) (lpla : K.lookup gpla = some ⟨ocpla, odpla, .func (PySem.W.fnOf "plain" "plain" (defArgs sPlain) (defBody sPlain) (defScope sPlain) .none kVpla dcpla pmpla anpla cdpla ctpla), slpla⟩) (cpla : PySem.W.codeIn K cdpla "plain" = true) (kpla : PySem.W.keepIn K (.ref gpla) = true)
    (apen : PySem.W.nsIn K mainGlobals "_law_pen" = some (some (.ref gpen))) (lpen : K.lookup gpen = some ⟨ocpen, odpen, .func (PySem.W.fnOf "_law_pen" "_law_pen" (defArgs sPen) (defBody sPen) (defScope sPen) .none kVpen dcpen pmpen anpen cdpen ctpen), slpen⟩) (cpen : PySem.W.codeIn K cdpen "_law_pen" = true) (kpen : PySem.W.keepIn K (.ref gpen) = true)
    (adrw : PySem.W.nsIn K mainGlobals "_law_draw" = some (some (.ref gdrw))) (ldrw : K.lookup gdrw = some ⟨ocdrw, oddrw, .func (PySem.W.fnOf "_law_draw" "_law_draw" (defArgs sDraw) (defBody sDraw) (defScope sDraw) .none kVdrw dcdrw pmdrw andrw cddrw ctdrw), sldrw⟩) (cdrw : PySem.W.codeIn K cddrw "_law_draw" = true) (kdrw : PySem.W.keepIn K (.ref gdrw) = true)
    (apck : PySem.W.nsIn K mainGlobals "_law_pick" = some (some (.ref gpck))) (lpck : K.lookup gpck = some ⟨ocpck, odpck, .func (PySem.W.fnOf "_law_pick" "_law_pick" (defArgs sPick) (defBody sPick) (defScope sPick) .none kVpck dcpck pmpck anpck cdpck ctpck), slpck⟩) (cpck : PySem.W.codeIn K cdpck "_law_pick" = true) (kpck : PySem.W.keepIn K (.ref gpck) = true)
    (awrd : PySem.W.nsIn K mainGlobals "_law_word" = some (some (.ref gwrd))) (lwrd : K.lookup gwrd = some ⟨ocwrd, odwrd, .func (PySem.W.fnOf "_law_word" "_law_word" (defArgs sWord) (defBody sWord) (defScope sWord) .none kVwrd dcwrd pmwrd anwrd cdwrd ctwrd), slwrd⟩) (cwrd : PySem.W.codeIn K cdwrd "_law_word" = true) (kwrd : PySem.W.keepIn K (.ref gwrd) = true)
    (awor : PySem.W.nsIn K mainGlobals "_law_worth" = some (some (.ref gwor))) (lwor : K.lookup gwor = some ⟨ocwor, odwor, .func (PySem.W.fnOf "_law_worth" "_law_worth" (defArgs sWor) (defBody sWor) (defScope sWor) .none kVwor dcwor pmwor anwor cdwor ctwor), slwor⟩) (cwor : PySem.W.codeIn K cdwor "_law_worth" = true) (kwor : PySem.W.keepIn K (.ref gwor) = true)
    (afrs : PySem.W.nsIn K mainGlobals "_law_forms" = some (some (.ref gfrs))) (lfrs : K.lookup gfrs = some ⟨ocfrs, odfrs, .func (PySem.W.fnOf "_law_forms" "_law_forms" (defArgs sForms) (defBody sForms) (defScope sForms) .none kVfrs dcfrs pmfrs anfrs cdfrs ctfrs), slfrs⟩) (cfrs : PySem.W.codeIn K cdfrs "_law_forms" = true) (kfrs : PySem.W.keepIn K (.ref gfrs) = true)
    (alpt : PySem.W.nsIn K mainGlobals "_law_part" = some (some (.ref glpt))) (llpt : K.lookup glpt = some ⟨oclpt, odlpt, .func (PySem.W.fnOf "_law_part" "_law_part" (defArgs sPart) (defBody sPart) (defScope sPart) .none kVlpt dclpt pmlpt anlpt cdlpt ctlpt), sllpt⟩) (clpt : PySem.W.codeIn K cdlpt "_law_part" = true) (klpt : PySem.W.keepIn K (.ref glpt) = true)
    (ascr : PySem.W.nsIn K mainGlobals "_law_script" = some (some (.ref gscr))) (lscr : K.lookup gscr = some ⟨ocscr, odscr, .func (PySem.W.fnOf "_law_script" "_law_script" (defArgs sScr) (defBody sScr) (defScope sScr) .none kVscr dcscr pmscr anscr cdscr ctscr), slscr⟩) (cscr : PySem.W.codeIn K cdscr "_law_script" = true) (kscr : PySem.W.keepIn K (.ref gscr) = true)
    (afrm : PySem.W.nsIn K mainGlobals "_law_is_from" = some (some (.ref gfrm))) (lfrm : K.lookup gfrm = some ⟨ocfrm, odfrm, .func (PySem.W.fnOf "_law_is_from" "_law_is_from" (defArgs sFrom) (defBody sFrom) (defScope sFrom) .none kVfrm dcfrm pmfrm anfrm cdfrm ctfrm), slfrm⟩) (cfrm : PySem.W.codeIn K cdfrm "_law_is_from" = true) (kfrm : PySem.W.keepIn K (.ref gfrm) = true)
    (alwd : PySem.W.nsIn K mainGlobals "_law_is_word" = some (some (.ref glwd))) (llwd : K.lookup glwd = some ⟨oclwd, odlwd, .func (PySem.W.fnOf "_law_is_word" "_law_is_word" (defArgs sLWord) (defBody sLWord) (defScope sLWord) .none kVlwd dclwd pmlwd anlwd cdlwd ctlwd), sllwd⟩) (clwd : PySem.W.codeIn K cdlwd "_law_is_word" = true) (klwd : PySem.W.keepIn K (.ref glwd) = true)
    (alwt : PySem.W.nsIn K mainGlobals "_law_is_worth" = some (some (.ref glwt))) (llwt : K.lookup glwt = some ⟨oclwt, odlwt, .func (PySem.W.fnOf "_law_is_worth" "_law_is_worth" (defArgs sLWorth) (defBody sLWorth) (defScope sLWorth) .none kVlwt dclwt pmlwt anlwt cdlwt ctlwt), sllwt⟩) (clwt : PySem.W.codeIn K cdlwt "_law_is_worth" = true) (klwt : PySem.W.keepIn K (.ref glwt) = true)
    (alip : PySem.W.nsIn K mainGlobals "_law_is_part" = some (some (.ref glip))) (llip : K.lookup glip = some ⟨oclip, odlip, .func (PySem.W.fnOf "_law_is_part" "_law_is_part" (defArgs sIsPart) (defBody sIsPart) (defScope sIsPart) .none kVlip dclip pmlip anlip cdlip ctlip), sllip⟩) (clip : PySem.W.codeIn K cdlip "_law_is_part" = true) (klip : PySem.W.keepIn K (.ref glip) = true)
    (amny : PySem.W.nsIn K mainGlobals "_law_many" = some (some (.ref gmny))) (lmny : K.lookup gmny = some ⟨ocmny, odmny, .func (PySem.W.fnOf "_law_many" "_law_many" (defArgs sMany) (defBody sMany) (defScope sMany) .none kVmny dcmny pmmny anmny cdmny ctmny), slmny⟩) (cmny : PySem.W.codeIn K cdmny "_law_many" = true) (kmny : PySem.W.keepIn K (.ref gmny) = true)
    (alsc : PySem.W.nsIn K mainGlobals "_law_is_script" = some (some (.ref glsc))) (llsc : K.lookup glsc = some ⟨oclsc, odlsc, .func (PySem.W.fnOf "_law_is_script" "_law_is_script" (defArgs sLScript) (defBody sLScript) (defScope sLScript) .none kVlsc dclsc pmlsc anlsc cdlsc ctlsc), sllsc⟩) (clsc : PySem.W.codeIn K cdlsc "_law_is_script" = true) (klsc : PySem.W.keepIn K (.ref glsc) = true)
    (ashn : PySem.W.nsIn K mainGlobals "_law_shown" = some (some (.ref gshn))) (lshn : K.lookup gshn = some ⟨ocshn, odshn, .func (PySem.W.fnOf "_law_shown" "_law_shown" (defArgs sShown) (defBody sShown) (defScope sShown) .none kVshn dcshn pmshn anshn cdshn ctshn), slshn⟩) (cshn : PySem.W.codeIn K cdshn "_law_shown" = true) (kshn : PySem.W.keepIn K (.ref gshn) = true)
    (altx : PySem.W.nsIn K mainGlobals "_law_text" = some (some (.ref gltx))) (lltx : K.lookup gltx = some ⟨ocltx, odltx, .func (PySem.W.fnOf "_law_text" "_law_text" (defArgs sLT) (defBody sLT) (defScope sLT) .none kVltx dcltx pmltx anltx cdltx ctltx), slltx⟩) (cltx : PySem.W.codeIn K cdltx "_law_text" = true) (kltx : PySem.W.keepIn K (.ref gltx) = true)
    (aatm : PySem.W.nsIn K mainGlobals "_law_atom" = some (some (.ref gatm))) (latm : K.lookup gatm = some ⟨ocatm, odatm, .func (PySem.W.fnOf "_law_atom" "_law_atom" (defArgs sAtom) (defBody sAtom) (defScope sAtom) .none kVatm dcatm pmatm anatm cdatm ctatm), slatm⟩) (catm : PySem.W.codeIn K cdatm "_law_atom" = true) (katm : PySem.W.keepIn K (.ref gatm) = true)
    (alne : PySem.W.nsIn K mainGlobals "_law_nested" = some (some (.ref glne))) (llne : K.lookup glne = some ⟨oclne, odlne, .func (PySem.W.fnOf "_law_nested" "_law_nested" (defArgs sLNest) (defBody sLNest) (defScope sLNest) .none kVlne dclne pmlne anlne cdlne ctlne), sllne⟩) (clne : PySem.W.codeIn K cdlne "_law_nested" = true) (klne : PySem.W.keepIn K (.ref glne) = true)
    (alrd : PySem.W.nsIn K mainGlobals "_law_read" = some (some (.ref glrd))) (llrd : K.lookup glrd = some ⟨oclrd, odlrd, .func (PySem.W.fnOf "_law_read" "_law_read" (defArgs sLRead) (defBody sLRead) (defScope sLRead) .none kVlrd dclrd pmlrd anlrd cdlrd ctlrd), sllrd⟩) (clrd : PySem.W.codeIn K cdlrd "_law_read" = true) (klrd : PySem.W.keepIn K (.ref glrd) = true)
    (aspo : PySem.W.nsIn K mainGlobals "_law_spoilt" = some (some (.ref gspo))) (lspo : K.lookup gspo = some ⟨ocspo, odspo, .func (PySem.W.fnOf "_law_spoilt" "_law_spoilt" (defArgs sSpo) (defBody sSpo) (defScope sSpo) .none kVspo dcspo pmspo anspo cdspo ctspo), slspo⟩) (cspo : PySem.W.codeIn K cdspo "_law_spoilt" = true) (kspo : PySem.W.keepIn K (.ref gspo) = true)
    (atld : PySem.W.nsIn K mainGlobals "_law_told" = some (some (.ref gtld))) (ltld : K.lookup gtld = some ⟨octld, odtld, .func (PySem.W.fnOf "_law_told" "_law_told" (defArgs sTold) (defBody sTold) (defScope sTold) .none kVtld dctld pmtld antld cdtld cttld), sltld⟩) (ctld : PySem.W.codeIn K cdtld "_law_told" = true) (ktld : PySem.W.keepIn K (.ref gtld) = true)
    (alaw : PySem.W.nsIn K mainGlobals "law" = some (some (.ref glaw))) (llaw : K.lookup glaw = some ⟨oclaw, odlaw, .func (PySem.W.fnOf "law" "law" (defArgs sLaw) (defBody sLaw) (defScope sLaw) .none kVlaw dclaw pmlaw anlaw cdlaw ctlaw), sllaw⟩) (claw : PySem.W.codeIn K cdlaw "law" = true) (klaw : PySem.W.keepIn K (.ref glaw) = true)
    (zisinstance : PySem.W.nsIn K mainGlobals "isinstance" = some none)
    (zstr : PySem.W.nsIn K mainGlobals "str" = some none)
    (zint : PySem.W.nsIn K mainGlobals "int" = some none)
    (zbool : PySem.W.nsIn K mainGlobals "bool" = some none)
    (ztuple : PySem.W.nsIn K mainGlobals "tuple" = some none)
    (zlen : PySem.W.nsIn K mainGlobals "len" = some none)
    (zall : PySem.W.nsIn K mainGlobals "all" = some none)
    (zlist : PySem.W.nsIn K mainGlobals "list" = some none)
    (zrange : PySem.W.nsIn K mainGlobals "range" = some none)
    (zrepr : PySem.W.nsIn K mainGlobals "repr" = some none)
    (zzip : PySem.W.nsIn K mainGlobals "zip" = some none)
    (zmax : PySem.W.nsIn K mainGlobals "max" = some none)
    (zValueError : PySem.W.nsIn K mainGlobals "ValueError" = some none)
    (yMOST_LETTERS : PySem.W.nsIn K mainGlobals "MOST_LETTERS" = some (some (.int 8 tkMOST_LETTERS)))
    (yFARTHEST : PySem.W.nsIn K mainGlobals "FARTHEST" = some (some (.int 1000000000 tkFARTHEST)))
    (yMOST_WORTHS : PySem.W.nsIn K mainGlobals "MOST_WORTHS" = some (some (.int 20 tkMOST_WORTHS)))
    (yWORTH_LEVELS : PySem.W.nsIn K mainGlobals "WORTH_LEVELS" = some (some (.int 4 tkWORTH_LEVELS)))
    (yLAST_RANK : PySem.W.nsIn K mainGlobals "LAST_RANK" = some (some (.int 5 tkLAST_RANK)))
    (yMOST_COUNT : PySem.W.nsIn K mainGlobals "MOST_COUNT" = some (some (.int 1000 tkMOST_COUNT)))
    (yMOST_NAMES : PySem.W.nsIn K mainGlobals "MOST_NAMES" = some (some (.int 8 tkMOST_NAMES)))
    (yMOST_DEEDS : PySem.W.nsIn K mainGlobals "MOST_DEEDS" = some (some (.int 200 tkMOST_DEEDS)))
    (ySCRIPT_LEVELS : PySem.W.nsIn K mainGlobals "SCRIPT_LEVELS" = some (some (.int 5 tkSCRIPT_LEVELS)))
    (yMOST_FIGURES : PySem.W.nsIn K mainGlobals "MOST_FIGURES" = some (some (.int 10 tkMOST_FIGURES)))
    (xD : PySem.W.nsIn K mainGlobals "DEEDS" = some (some (.ref dA)))
    (xDl : K.lookup dA = some ⟨.type "dict", none, .dict esD nD, #[]⟩)
    (xDt : PySem.W.KeysLit w.params esD.toList)
    (xDp : Paired (EntAt K) esD.toList formL)
    (xDs : (dA == sysModules) = false)
    (xC : PySem.W.nsIn K mainGlobals "CHECKS" = some (some (.ref cA)))
    (xCl : K.lookup cA = some ⟨.type "dict", none, .dict esC nC, #[]⟩)
    (xCt : PySem.W.KeysLit w.params esC.toList)
    (xCword : PySem.W.nsIn K cA "word" = some (some (.ref gisw)))
    (xCrank : PySem.W.nsIn K cA "rank" = some (some (.ref grnk)))
    (xCcount : PySem.W.nsIn K cA "count" = some (some (.ref gcou)))
    (xCgap : PySem.W.nsIn K cA "gap" = some (some (.ref ggap)))
    (xCdue : PySem.W.nsIn K cA "due" = some (some (.ref gdue)))
    (xCworth : PySem.W.nsIn K cA "worth" = some (some (.ref gisv)))
    (xCnames : PySem.W.nsIn K cA "names" = some (some (.ref gnam)))
    (xS : PySem.W.nsIn K mainGlobals "SCRIPT_KINDS" = some (some (.ref kA)))
    (xSl : K.lookup kA = some oS)
    (xSc : SqO oS [.str "script", .str "perhaps"])
    (xO : PySem.W.nsIn K mainGlobals "OPENING" = some (some (.ref oA)))
    (xOl : K.lookup oA = some oO)
    (xOc : SqO oO opL)
    (xQ : PySem.W.nsIn K mainGlobals "CLOSING" = some (some (.ref qA)))
    (xQl : K.lookup qA = some oQ)
    (xQc : SqO oQ clL)
    (xX : PySem.W.nsIn K mainGlobals "NoText" = some (some (.ref xA)))
    (xXl : K.lookup xA = some (excClassObj xnm xq xA xN xbs [.type "ValueError", .type "Exception", .type "BaseException", .type "object"] true xsn xsub xab xcol xdd xm0 xm1 xm2 xm3 xm5 "ValueError.__new__"))
    (xXs : PySem.W.findIn K (.ref xA) "__setattr__" = some (some (.builtin "object.__setattr__")))
    (xXg : PySem.W.findIn K (.ref xA) "__getattribute__" = some (some (.builtin "BaseException.__getattribute__")))
    (xXh : PySem.W.findIn K (.ref xA) "__getattr__" = some none)
    (xXr : PySem.W.findIn K (.ref xA) "row" = some none)
    (xXi : PySem.W.findIn K (.ref xA) "__init__" = some (some (.ref iA)))
    (xXt : PySem.W.typeIn K (.ref iA) = some (.type "function"))
    (xIl : K.lookup iA = some ⟨xoc, xod, .func (PySem.W.fnOf "__init__" "NoText.__init__" (defArgs sNT) (defBody sNT) (defScope sNT) .none xkV xdc xpm xan xcd xct), xsl⟩)
    (xIc : PySem.W.codeIn K xcd "NoText.__init__" = true)
    (xIk : PySem.W.keepIn K (.ref iA) = true)
    (xXk : PySem.W.keepIn K (.ref xA) = true)
    (xXe : PySem.W.subIn K (.ref xA) (.type "BaseException") = some true)
    (xXy : PySem.W.typeIn K (.ref xA) = some (.type "type"))
    (xXd : PySem.W.hasDictIn K xA = true)
    (xXm : PySem.W.exmOne K (.ref xA) (.ref xA) = some true)
    (xVV : PySem.W.findCls K (.type "ValueError") (.type "type") "__init__" = some (.val (.builtin "ValueError.__init__")))
    (xKc : PySem.W.findIn K (.ref xA) "__class__" = some (some (.builtin "object.__class__")))
    (xKs : PySem.W.specialIn K (.builtin "object.__class__") "__get__" = some (some (.builtin "getset_descriptor.__get__")))
    (xKt : PySem.W.takesIn K (.builtin "object.__class__") = some true)
    (xKm : PySem.W.mroIn K xA (.type "object") = some true)
    (xKV : PySem.W.kitOne K (.ref xA) (.type "ValueError") = some true)
    (xR1 : PySem.W.nsIn K mainGlobals "NoRow" = some (some (.ref rA1)))
    (xR2 : PySem.W.nsIn K mainGlobals "NoScript" = some (some (.ref rA2)))
    (xR3 : PySem.W.nsIn K mainGlobals "TooMany" = some (some (.ref rA3)))
    (xK3 : PySem.W.kitAny K (.ref xA) [.ref rA1, .ref rA2, .ref rA3] = some false) :
    ∃ fd : FuncData, (∀ (s : Shared) (v : Value), BindsTo s fd ⟨[v], []⟩ [("_law_script_here", v)]) ∧ ∀ base : Heap, K.In base → base.Ns mainGlobals mg → FnG l.prog w K mg base 27 fa fd ["_law_script_here"] (spLaw K) := by
  have e := hfa.symm.trans (PySem.W.mg_of X G alaw)
  cases e
  have Fisw := fun_mk (st := sIsWord) lisw cisw kisw
  have misw := PySem.W.mg_of X G aisw
  have bisw := Fisw.binds (ps := ["thing"]) fun _ _ _ _ _ _ us hl => match us, hl with | [_], _ => rfl
  have Fbtw := fun_mk (st := sBtw) lbtw cbtw kbtw
  have mbtw := PySem.W.mg_of X G abtw
  have bbtw := Fbtw.binds (ps := ["thing", "least", "most"]) fun _ _ _ _ _ _ us hl => match us, hl with | [_, _, _], _ => rfl
  have Fisv := fun_mk (st := sIsWorth) lisv cisv kisv
  have misv := PySem.W.mg_of X G aisv
  have bisv := Fisv.binds (ps := ["thing"]) fun _ _ _ _ _ _ us hl => match us, hl with | [_], _ => rfl
  have Fwth := fun_mk (st := sWth) lwth cwth kwth
  have mwth := PySem.W.mg_of X G awth
  have bwth := Fwth.binds (ps := ["thing", "levels"]) fun _ _ _ _ _ _ us hl => match us, hl with | [_, _], _ => rfl
  have Fnam := fun_mk (st := sNames) lnam cnam knam
  have mnam := PySem.W.mg_of X G anam
  have bnam := Fnam.binds (ps := ["thing"]) fun _ _ _ _ _ _ us hl => match us, hl with | [_], _ => rfl
  have Frnk := fun_mk (st := sRank) lrnk crnk krnk
  have mrnk := PySem.W.mg_of X G arnk
  have brnk := Frnk.binds (ps := ["thing"]) fun _ _ _ _ _ _ us hl => match us, hl with | [_], _ => rfl
  have Fcou := fun_mk (st := sCount) lcou ccou kcou
  have mcou := PySem.W.mg_of X G acou
  have bcou := Fcou.binds (ps := ["thing"]) fun _ _ _ _ _ _ us hl => match us, hl with | [_], _ => rfl
  have Fgap := fun_mk (st := sGap) lgap cgap kgap
  have mgap := PySem.W.mg_of X G agap
  have bgap := Fgap.binds (ps := ["thing"]) fun _ _ _ _ _ _ us hl => match us, hl with | [_], _ => rfl
  have Fdue := fun_mk (st := sDue) ldue cdue kdue
  have mdue := PySem.W.mg_of X G adue
  have bdue := Fdue.binds (ps := ["thing"]) fun _ _ _ _ _ _ us hl => match us, hl with | [_], _ => rfl
  have Fprt := fun_mk (st := sParts) lprt cprt kprt
  have mprt := PySem.W.mg_of X G aprt
  have bprt := Fprt.binds (ps := ["deed"]) fun _ _ _ _ _ _ us hl => match us, hl with | [_], _ => rfl
  have Fiss := fun_mk (st := sIsScript) liss ciss kiss
  have miss := PySem.W.mg_of X G aiss
  have biss := Fiss.binds (ps := ["thing"]) fun _ _ _ _ _ _ us hl => match us, hl with | [_], _ => rfl
  have Froo := fun_mk (st := sRoom) lroo croo kroo
  have mroo := PySem.W.mg_of X G aroo
  have broo := Froo.binds (ps := ["thing", "levels", "room"]) fun _ _ _ _ _ _ us hl => match us, hl with | [_, _, _], _ => rfl
  have Frod := fun_mk (st := sRoomD) lrod crod krod
  have mrod := PySem.W.mg_of X G arod
  have brod := Frod.binds (ps := ["deed", "levels", "room"]) fun _ _ _ _ _ _ us hl => match us, hl with | [_, _, _], _ => rfl
  have Ffit := fun_mk (st := sFits) lfit cfit kfit
  have mfit := PySem.W.mg_of X G afit
  have bfit := Ffit.binds (ps := ["kind", "part"]) fun _ _ _ _ _ _ us hl => match us, hl with | [_, _], _ => rfl
  have Fshs := fun_mk (st := sShS) lshs cshs kshs
  have mshs := PySem.W.mg_of X G ashs
  have bshs := Fshs.binds (ps := ["script"]) fun _ _ _ _ _ _ us hl => match us, hl with | [_], _ => rfl
  have Fsds := fun_mk (st := sSD) lsds csds ksds
  have msds := PySem.W.mg_of X G asds
  have bsds := Fsds.binds (ps := ["script"]) fun _ _ _ _ _ _ us hl => match us, hl with | [_], _ => rfl
  have Fshd := fun_mk (st := sShD) lshd cshd kshd
  have mshd := PySem.W.mg_of X G ashd
  have bshd := Fshd.binds (ps := ["deed"]) fun _ _ _ _ _ _ us hl => match us, hl with | [_], _ => rfl
  have Fshp := fun_mk (st := sShP) lshp cshp kshp
  have mshp := PySem.W.mg_of X G ashp
  have bshp := Fshp.binds (ps := ["kind", "part"]) fun _ _ _ _ _ _ us hl => match us, hl with | [_, _], _ => rfl
  have Fshw := fun_mk (st := sShow) lshw cshw kshw
  have mshw := PySem.W.mg_of X G ashw
  have bshw := Fshw.binds (ps := ["worth"]) fun _ _ _ _ _ _ us hl => match us, hl with | [_], _ => rfl
  have Fbrk := fun_mk (st := sBr) lbrk cbrk kbrk
  have mbrk := PySem.W.mg_of X G abrk
  have bbrk := Fbrk.binds (ps := ["opening", "texts", "closing"]) fun _ _ _ _ _ _ us hl => match us, hl with | [_, _, _], _ => rfl
  have Frea := fun_mk (st := sRead) lrea crea krea
  have mrea := PySem.W.mg_of X G area
  have brea := Frea.binds (ps := ["text"]) fun _ _ _ _ _ _ us hl => match us, hl with | [_], _ => rfl
  have Fnes := fun_mk (st := sNest) lnes cnes knes
  have mnes := PySem.W.mg_of X G anes
  have bnes := Fnes.binds (ps := ["signs"]) fun _ _ _ _ _ _ us hl => match us, hl with | [_], _ => rfl
  have Fpla := fun_mk (st := sPlain) lpla cpla kpla
  have mpla := PySem.W.mg_of X G apla
  have bpla := Fpla.binds (ps := ["sign"]) fun _ _ _ _ _ _ us hl => match us, hl with | [_], _ => rfl
  have Fpen := fun_mk (st := sPen) lpen cpen kpen
  have mpen := PySem.W.mg_of X G apen
  have bpen := Fpen.binds (ps := ["_law_script_here"]) fun _ _ _ _ _ _ us hl => match us, hl with | [_], _ => rfl
  have Fdrw := fun_mk (st := sDraw) ldrw cdrw kdrw
  have mdrw := PySem.W.mg_of X G adrw
  have bdrw := Fdrw.binds (ps := ["_law_held", "_law_many_here"]) fun _ _ _ _ _ _ us hl => match us, hl with | [_, _], _ => rfl
  have Fpck := fun_mk (st := sPick) lpck cpck kpck
  have mpck := PySem.W.mg_of X G apck
  have bpck := Fpck.binds (ps := ["_law_held", "_law_some"]) fun _ _ _ _ _ _ us hl => match us, hl with | [_, _], _ => rfl
  have Fwrd := fun_mk (st := sWord) lwrd cwrd kwrd
  have mwrd := PySem.W.mg_of X G awrd
  have bwrd := Fwrd.binds (ps := ["_law_held"]) fun _ _ _ _ _ _ us hl => match us, hl with | [_], _ => rfl
  have Fwor := fun_mk (st := sWor) lwor cwor kwor
  have mwor := PySem.W.mg_of X G awor
  have bwor := Fwor.binds (ps := ["_law_held", "_law_within"]) fun _ _ _ _ _ _ us hl => match us, hl with | [_, _], _ => rfl
  have Ffrs := fun_mk (st := sForms) lfrs cfrs kfrs
  have mfrs := PySem.W.mg_of X G afrs
  have bfrs := Ffrs.binds (ps := []) fun _ _ _ _ _ _ us hl => match us, hl with | [], _ => rfl
  have Flpt := fun_mk (st := sPart) llpt clpt klpt
  have mlpt := PySem.W.mg_of X G alpt
  have blpt := Flpt.binds (ps := ["_law_held", "_law_kind", "_law_plan", "_law_within"]) fun _ _ _ _ _ _ us hl => match us, hl with | [_, _, _, _], _ => rfl
  have Fscr := fun_mk (st := sScr) lscr cscr kscr
  have mscr := PySem.W.mg_of X G ascr
  have bscr := Fscr.binds (ps := ["_law_held", "_law_plan", "_law_within"]) fun _ _ _ _ _ _ us hl => match us, hl with | [_, _, _], _ => rfl
  have Ffrm := fun_mk (st := sFrom) lfrm cfrm kfrm
  have mfrm := PySem.W.mg_of X G afrm
  have bfrm := Ffrm.binds (ps := ["_law_thing", "_law_least", "_law_most"]) fun _ _ _ _ _ _ us hl => match us, hl with | [_, _, _], _ => rfl
  have Flwd := fun_mk (st := sLWord) llwd clwd klwd
  have mlwd := PySem.W.mg_of X G alwd
  have blwd := Flwd.binds (ps := ["_law_thing"]) fun _ _ _ _ _ _ us hl => match us, hl with | [_], _ => rfl
  have Flwt := fun_mk (st := sLWorth) llwt clwt klwt
  have mlwt := PySem.W.mg_of X G alwt
  have blwt := Flwt.binds (ps := ["_law_thing", "_law_left"]) fun _ _ _ _ _ _ us hl => match us, hl with | [_, _], _ => rfl
  have Flip := fun_mk (st := sIsPart) llip clip klip
  have mlip := PySem.W.mg_of X G alip
  have blip := Flip.binds (ps := ["_law_kind", "_law_thing"]) fun _ _ _ _ _ _ us hl => match us, hl with | [_, _], _ => rfl
  have Fmny := fun_mk (st := sMany) lmny cmny kmny
  have mmny := PySem.W.mg_of X G amny
  have bmny := Fmny.binds (ps := ["_law_thing", "_law_left"]) fun _ _ _ _ _ _ us hl => match us, hl with | [_, _], _ => rfl
  have Flsc := fun_mk (st := sLScript) llsc clsc klsc
  have mlsc := PySem.W.mg_of X G alsc
  have blsc := Flsc.binds (ps := ["_law_thing"]) fun _ _ _ _ _ _ us hl => match us, hl with | [_], _ => rfl
  have Fshn := fun_mk (st := sShown) lshn cshn kshn
  have mshn := PySem.W.mg_of X G ashn
  have bshn := Fshn.binds (ps := ["_law_thing"]) fun _ _ _ _ _ _ us hl => match us, hl with | [_], _ => rfl
  have Fltx := fun_mk (st := sLT) lltx cltx kltx
  have mltx := PySem.W.mg_of X G altx
  have bltx := Fltx.binds (ps := ["_law_todo"]) fun _ _ _ _ _ _ us hl => match us, hl with | [_], _ => rfl
  have Fatm := fun_mk (st := sAtom) latm catm katm
  have matm := PySem.W.mg_of X G aatm
  have batm := Fatm.binds (ps := ["_law_word_here"]) fun _ _ _ _ _ _ us hl => match us, hl with | [_], _ => rfl
  have Flne := fun_mk (st := sLNest) llne clne klne
  have mlne := PySem.W.mg_of X G alne
  have blne := Flne.binds (ps := ["_law_words"]) fun _ _ _ _ _ _ us hl => match us, hl with | [_], _ => rfl
  have Flrd := fun_mk (st := sLRead) llrd clrd klrd
  have mlrd := PySem.W.mg_of X G alrd
  have blrd := Flrd.binds (ps := ["_law_text_here"]) fun _ _ _ _ _ _ us hl => match us, hl with | [_], _ => rfl
  have Fspo := fun_mk (st := sSpo) lspo cspo kspo
  have mspo := PySem.W.mg_of X G aspo
  have bspo := Fspo.binds (ps := ["_law_held", "_law_text_here"]) fun _ _ _ _ _ _ us hl => match us, hl with | [_, _], _ => rfl
  have Ftld := fun_mk (st := sTold) ltld ctld ktld
  have mtld := PySem.W.mg_of X G atld
  have btld := Ftld.binds (ps := ["_law_thing"]) fun _ _ _ _ _ _ us hl => match us, hl with | [_], _ => rfl
  have Flaw := fun_mk (st := sLaw) llaw claw klaw
  have mlaw := PySem.W.mg_of X G alaw
  have nisinstance := PySem.W.mg_none_of X G zisinstance
  have nstr := PySem.W.mg_none_of X G zstr
  have nint := PySem.W.mg_none_of X G zint
  have nbool := PySem.W.mg_none_of X G zbool
  have ntuple := PySem.W.mg_none_of X G ztuple
  have nlen := PySem.W.mg_none_of X G zlen
  have nall := PySem.W.mg_none_of X G zall
  have nlist := PySem.W.mg_none_of X G zlist
  have nrange := PySem.W.mg_none_of X G zrange
  have nrepr := PySem.W.mg_none_of X G zrepr
  have nzip := PySem.W.mg_none_of X G zzip
  have nmax := PySem.W.mg_none_of X G zmax
  have nValueError := PySem.W.mg_none_of X G zValueError
  have vMOST_LETTERS := PySem.W.mg_of X G yMOST_LETTERS
  have vFARTHEST := PySem.W.mg_of X G yFARTHEST
  have vMOST_WORTHS := PySem.W.mg_of X G yMOST_WORTHS
  have vWORTH_LEVELS := PySem.W.mg_of X G yWORTH_LEVELS
  have vLAST_RANK := PySem.W.mg_of X G yLAST_RANK
  have vMOST_COUNT := PySem.W.mg_of X G yMOST_COUNT
  have vMOST_NAMES := PySem.W.mg_of X G yMOST_NAMES
  have vMOST_DEEDS := PySem.W.mg_of X G yMOST_DEEDS
  have vSCRIPT_LEVELS := PySem.W.mg_of X G ySCRIPT_LEVELS
  have vMOST_FIGURES := PySem.W.mg_of X G yMOST_FIGURES
  refine ⟨PySem.W.fnOf "law" "law" (defArgs sLaw) (defBody sLaw) (defScope sLaw) .none kVlaw dclaw pmlaw anlaw cdlaw ctlaw, fun s v => .of_eq rfl, fun base _ _ => ?_⟩
  have Gisw := ok_isword (P := l.prog) (w := w) (pB := base) Fisw nisinstance nstr nlen vMOST_LETTERS
  have Gbtw := ok_between (P := l.prog) (w := w) (pB := base) Fbtw nisinstance nint nbool
  have Gwth := ok_within Fwth mwth bwth Gisw misw kisw bisw Gbtw mbtw kbtw bbtw nisinstance ntuple nlen nall vFARTHEST vMOST_WORTHS
  have Gisv := ok_isworth Fisv (Gwth 4) mwth kwth bwth vWORTH_LEVELS
  have Gnam := ok_names Fnam Gisw misw kisw bisw nisinstance ntuple nlen nall vMOST_NAMES
  have Grnk := ok_rank Frnk Gbtw mbtw kbtw bbtw vLAST_RANK
  have Gcou := ok_count Fcou Gbtw mbtw kbtw bbtw vMOST_COUNT
  have Ggap := ok_gap Fgap Gbtw mbtw kbtw bbtw vMOST_COUNT
  have Gdue := ok_due Fdue Gcou mcou kcou bcou
  have D : Deeds K w mg dA esD nD := deeds_mk (PySem.W.mg_of X G xD) xDl xDt (by assumption) xDp
  have C : Checks l.prog w K mg base cA := ⟨PySem.W.mg_of X G xC, fun k hk => by
    cases k with
    | w => exact ⟨gisw, ⟨esC, nC, .ref gisw, xCl, xCt, xCword, rfl⟩, ⟨_, _, Gisw.mono (by decide), kisw, bisw⟩⟩
    | k => exact ⟨gcou, ⟨esC, nC, .ref gcou, xCl, xCt, xCcount, rfl⟩, ⟨_, _, Gcou.mono (by decide), kcou, bcou⟩⟩
    | r => exact ⟨grnk, ⟨esC, nC, .ref grnk, xCl, xCt, xCrank, rfl⟩, ⟨_, _, Grnk.mono (by decide), krnk, brnk⟩⟩
    | e => exact ⟨ggap, ⟨esC, nC, .ref ggap, xCl, xCt, xCgap, rfl⟩, ⟨_, _, Ggap.mono (by decide), kgap, bgap⟩⟩
    | i => exact ⟨gdue, ⟨esC, nC, .ref gdue, xCl, xCt, xCdue, rfl⟩, ⟨_, _, Gdue.mono (by decide), kdue, bdue⟩⟩
    | v => exact ⟨gisv, ⟨esC, nC, .ref gisv, xCl, xCt, xCworth, rfl⟩, ⟨_, _, Gisv.mono (by decide), kisv, bisv⟩⟩
    | n => exact ⟨gnam, ⟨esC, nC, .ref gnam, xCl, xCt, xCnames, rfl⟩, ⟨_, _, Gnam.mono (by decide), knam, bnam⟩⟩
    | S => cases hk
    | s => cases hk⟩
  have Gfit := ok_fits Ffit C
  have Groo := ok_rooms Frod mrod brod Froo mroo broo D Gisw misw kisw bisw Gfit mfit kfit bfit nisinstance ntuple nstr nlen
  have Giss := ok_isscript Fiss (Groo 5).1 mroo kroo broo vSCRIPT_LEVELS vMOST_DEEDS
  have Gpen := ok_pen (P := l.prog) (w := w) (base := base) Fpen nlist
  have Gdrw := ok_draw (P := l.prog) (w := w) (base := base) Fdrw nlen
  have Gpck := ok_pick Fpck Gdrw mdrw kdrw bdrw nlen
  have Gwrd := ok_word Fwrd Gdrw mdrw kdrw bdrw Gpck mpck kpck bpck nrange
  have Gwor := ok_wor Fwor mwor bwor Gdrw mdrw kdrw bdrw Gwrd mwrd kwrd bwrd nint ntuple nrange 2
  have Gfrs := ok_forms (P := l.prog) (w := w) (mg := mg) (pB := base) Ffrs
  have Gscr := ok_scrU (ok_scripts Flpt mlpt blpt Fscr mscr bscr Gfrs mfrs kfrs bfrs Gpck mpck kpck bpck Gdrw mdrw kdrw bdrw Gwrd mwrd kwrd bwrd Gwor mwor kwor bwor nint ntuple nrange nmax)
  have Gfrm := ok_from (P := l.prog) (w := w) (pB := base) Ffrm nisinstance nint nbool
  have Glwd := ok_lword (P := l.prog) (w := w) (pB := base) Flwd nisinstance nstr nlen
  have Glwt := ok_lworth Flwt mlwt blwt Glwd mlwd klwd blwd Gfrm mfrm kfrm bfrm nisinstance ntuple nlen 4
  have Glip := ok_ispart Flip Glwd mlwd klwd blwd Glwt mlwt klwt blwt Gfrm mfrm kfrm bfrm nisinstance ntuple nlen nall nint
  have Gmny := ok_many Fmny mmny bmny Gfrs mfrs kfrs bfrs Glip mlip klip blip nisinstance ntuple nstr nlen nzip 5
  have Glsc := ok_lscript Flsc Gmny mmny kmny bmny
  have Gprt := ok_parts (P := l.prog) (pB := base) Fprt D nlist nzip
  have Gbrk := ok_br (P := l.prog) (w := w) (mg := mg) (pB := base) Fbrk
  have Gshw := (ok_show Fshw mshw bshw Gbrk mbrk kbrk bbrk nisinstance ntuple 4).mono (k := 8) (by decide)
  have Gsds := ok_sds Fsds msds bsds Fshd mshd bshd Fshp mshp bshp Gbrk mbrk kbrk bbrk Gshw mshw kshw bshw Gprt mprt kprt bprt (PySem.W.mg_of X G xS) (fun H => sqt_of xSl xSc)
  have Gshs := ok_shs Fshs 4 (Gsds 4) msds ksds bsds
  have Gpla := ok_plain (P := l.prog) (w := w) (pB := base) Fpla nlen nint vMOST_FIGURES
  have T : OexC K xA := ⟨⟨xnm, xq, xN, xbs, _, xsn, xsub, xab, xcol, xdd, xm0, xm1, xm2, xm3, xm5, xXl, by decide +kernel⟩, xXs, xXe, xXy, xXk⟩
  have FX := fun_mk (st := sNT) xIl xIc xIk
  have GX := ok_nt (P := l.prog) (w := w) (mg := mg) (pB := base) FX T nValueError xVV xXr
  have bX := FX.binds (ps := ["self", "row"]) fun _ _ _ _ _ _ us hl => match us, hl with | [_, _], _ => rfl
  have NX : NTx l.prog w K mg base xA iA _ := ⟨T, xXi, xXt, GX, bX, PySem.W.mg_of X G xX⟩
  have Gnes := ok_nest Fnes NX Gpla mpla kpla bpla (PySem.W.mg_of X G xO) (fun H => sqt_of xOl xOc) (PySem.W.mg_of X G xQ) (fun H => sqt_of xQl xQc) ntuple
  have Grea := ok_read Frea NX Gnes mnes knes bnes Giss miss kiss biss Gshs mshs kshs bshs nisinstance nstr
  have Gtld := ok_told Ftld ⟨xXg, xXh, xXe, xXd⟩ ⟨xXd, xXg, xXh, xXe, xKc, xKs, xKt, xKm⟩ xXr xXm xKV xK3 (PySem.W.mg_of X G xX) (PySem.W.mg_of X G xR1) (PySem.W.mg_of X G xR2) (PySem.W.mg_of X G xR3) Grea mrea krea brea nisinstance nValueError
  have Gshn := ok_shown (P := l.prog) (w := w) (pB := base) Fshn mshn bshn nisinstance ntuple nstr 4
  have Gltx := ok_lt Fltx mltx bltx Gfrs mfrs kfrs bfrs Gshn mshn kshn bshn nzip nint 4 (by decide)
  have Gatm := ok_atom (P := l.prog) (w := w) (pB := base) Fatm nlen nint
  have Glne := ok_lnest Flne Gatm matm katm batm ntuple
  have Glrd := ok_lread Flrd Glne mlne klne blne Glsc mlsc klsc blsc Gltx mltx kltx bltx
  have Gspo := ok_spo Fspo Gdrw mdrw kdrw bdrw Gpck mpck kpck bpck nlen
  exact ok_law Flaw Gpen mpen kpen bpen Gdrw mdrw kdrw bdrw Gscr mscr kscr bscr Gltx mltx kltx bltx Gspo mspo kspo bspo Glrd mlrd klrd blrd Gtld mtld ktld btld nrange nrepr
theorem walk {l : PySem.W.OpenLaw} {q : Program} {loose : List Str} {XP : (Str → Option Value) → Heap → Prop} {YP : World → Heap → Prop} {d : DefRec} {K : Params → PySem.W.Frag} (hn : l.most = some 63) (hdf : d.params.defaults = [])
    (hY : ∀ (w : World) (h : Heap), YP w h → (K w.params).In h)
    (F : ∀ (w : World) (mg : Str → Option Value) (fa : Addr) (h : Heap), (K w.params).In h → h.Ns mainGlobals mg → mg d.name = some (.ref fa) →
      ∃ fd : FuncData, (∀ (s : Shared) (u : Value), BindsTo s fd ⟨[u], []⟩ [("_law_script_here", u)]) ∧ ∀ base : Heap, (K w.params).In base → base.Ns mainGlobals mg → FnG l.prog w (K w.params) mg base 27 fa fd ["_law_script_here"] ((fun w => spLaw (K w.params)) w)) :
    PySem.W.WalkO q loose XP YP l.row.toRowW d [] (fun f vs => PySem.call f vs) :=
  walkG (n := 63) (k := 27) (x := "_law_script_here") (sp := fun w => spLaw (K w.params)) hn (by decide) hdf ⟨rfl, by decide, by decide⟩ hY F (fun _ _ a ns hl hS => ⟨a, ns, rfl, hS, fun _ => rfl⟩)
end My

set_option Elab.async false
set_option linter.all false
set_option maxRecDepth 100000
open PySem PySem.W PyProof.Rows
set_option maxRecDepth 100000 in
set_option maxHeartbeats 0 in
theorem PySem.Challenge.cw_rankloop_k65_texts_of_no_script_holds : PySem.Challenge.rw_rankloop_k65_texts_of_no_script.Holds := by
  w_on; o_law; k_head; (case hw => w_witness2)
  k_fill
  refine My.walk (l := PySem.Challenge.rw_rankloop_k65_texts_of_no_script) rfl rfl (fun w h Y => PySem.W.kIn_of Y) ?F
  case F =>
    intro w mg fa h KX G hmg
    refine' My.all_mk KX G hmg ?aisw ?lisw ?cisw ?kisw ?abtw ?lbtw ?cbtw ?kbtw ?aisv ?lisv ?cisv ?kisv ?awth ?lwth ?cwth ?kwth ?anam ?lnam ?cnam ?knam ?arnk ?lrnk ?crnk ?krnk ?acou ?lcou ?ccou ?kcou ?agap ?lgap ?cgap ?kgap ?adue ?ldue ?cdue ?kdue ?aprt ?lprt ?cprt ?kprt ?aiss ?liss ?ciss ?kiss ?aroo ?lroo ?croo ?kroo ?arod ?lrod ?crod ?krod ?afit ?lfit ?cfit ?kfit ?ashs ?lshs ?cshs ?kshs ?asds ?lsds ?csds ?ksds ?ashd ?lshd ?cshd ?kshd ?ashp ?lshp ?cshp ?kshp ?ashw ?lshw ?cshw ?kshw ?abrk ?lbrk ?cbrk ?kbrk ?area ?lrea ?crea ?krea ?anes ?lnes ?cnes ?knes ?apla ?lpla ?cpla ?kpla ?apen ?lpen ?cpen ?kpen ?adrw ?ldrw ?cdrw ?kdrw ?apck ?lpck ?cpck ?kpck ?awrd ?lwrd ?cwrd ?kwrd ?awor ?lwor ?cwor ?kwor ?afrs ?lfrs ?cfrs ?kfrs ?alpt ?llpt ?clpt ?klpt ?ascr ?lscr ?cscr ?kscr ?afrm ?lfrm ?cfrm ?kfrm ?alwd ?llwd ?clwd ?klwd ?alwt ?llwt ?clwt ?klwt ?alip ?llip ?clip ?klip ?amny ?lmny ?cmny ?kmny ?alsc ?llsc ?clsc ?klsc ?ashn ?lshn ?cshn ?kshn ?altx ?lltx ?cltx ?kltx ?aatm ?latm ?catm ?katm ?alne ?llne ?clne ?klne ?alrd ?llrd ?clrd ?klrd ?aspo ?lspo ?cspo ?kspo ?atld ?ltld ?ctld ?ktld ?alaw ?llaw ?claw ?klaw ?zisinstance ?zstr ?zint ?zbool ?ztuple ?zlen ?zall ?zlist ?zrange ?zrepr ?zzip ?zmax ?zValueError ?yMOST_LETTERS ?yFARTHEST ?yMOST_WORTHS ?yWORTH_LEVELS ?yLAST_RANK ?yMOST_COUNT ?yMOST_NAMES ?yMOST_DEEDS ?ySCRIPT_LEVELS ?yMOST_FIGURES ?xD ?xDl ?xDt ?xDp ?xDs ?xC ?xCl ?xCt ?xCword ?xCrank ?xCcount ?xCgap ?xCdue ?xCworth ?xCnames ?xS ?xSl ?xSc ?xO ?xOl ?xOc ?xQ ?xQl ?xQc ?xX ?xXl ?xXs ?xXg ?xXh ?xXr ?xXi ?xXt ?xIl ?xIc ?xIk ?xXk ?xXe ?xXy ?xXd ?xXm ?xVV ?xKc ?xKs ?xKt ?xKm ?xKV ?xR1 ?xR2 ?xR3 ?xK3
    (case aisw => k_is)
    (case lisw => k_is)
    (case cisw => k_is)
    (case kisw => k_is)
    (case abtw => k_is)
    (case lbtw => k_is)
    (case cbtw => k_is)
    (case kbtw => k_is)
    (case aisv => k_is)
    (case lisv => k_is)
    (case cisv => k_is)
    (case kisv => k_is)
    (case awth => k_is)
    (case lwth => k_is)
    (case cwth => k_is)
    (case kwth => k_is)
    (case anam => k_is)
    (case lnam => k_is)
    (case cnam => k_is)
    (case knam => k_is)
    (case arnk => k_is)
    (case lrnk => k_is)
    (case crnk => k_is)
    (case krnk => k_is)
    (case acou => k_is)
    (case lcou => k_is)
    (case ccou => k_is)
    (case kcou => k_is)
    (case agap => k_is)
    (case lgap => k_is)
    (case cgap => k_is)
    (case kgap => k_is)
    (case adue => k_is)
    (case ldue => k_is)
    (case cdue => k_is)
    (case kdue => k_is)
    (case aprt => k_is)
    (case lprt => k_is)
    (case cprt => k_is)
    (case kprt => k_is)
    (case aiss => k_is)
    (case liss => k_is)
    (case ciss => k_is)
    (case kiss => k_is)
    (case aroo => k_is)
    (case lroo => k_is)
    (case croo => k_is)
    (case kroo => k_is)
    (case arod => k_is)
    (case lrod => k_is)
    (case crod => k_is)
    (case krod => k_is)
    (case afit => k_is)
    (case lfit => k_is)
    (case cfit => k_is)
    (case kfit => k_is)
    (case ashs => k_is)
    (case lshs => k_is)
    (case cshs => k_is)
    (case kshs => k_is)
    (case asds => k_is)
    (case lsds => k_is)
    (case csds => k_is)
    (case ksds => k_is)
    (case ashd => k_is)
    (case lshd => k_is)
    (case cshd => k_is)
    (case kshd => k_is)
    (case ashp => k_is)
    (case lshp => k_is)
    (case cshp => k_is)
    (case kshp => k_is)
    (case ashw => k_is)
    (case lshw => k_is)
    (case cshw => k_is)
    (case kshw => k_is)
    (case abrk => k_is)
    (case lbrk => k_is)
    (case cbrk => k_is)
    (case kbrk => k_is)
    (case area => k_is)
    (case lrea => k_is)
    (case crea => k_is)
    (case krea => k_is)
    (case anes => k_is)
    (case lnes => k_is)
    (case cnes => k_is)
    (case knes => k_is)
    (case apla => k_is)
    (case lpla => k_is)
    (case cpla => k_is)
    (case kpla => k_is)
    (case apen => k_is)
    (case lpen => k_is)
    (case cpen => k_is)
    (case kpen => k_is)
    (case adrw => k_is)
    (case ldrw => k_is)
    (case cdrw => k_is)
    (case kdrw => k_is)
    (case apck => k_is)
    (case lpck => k_is)
    (case cpck => k_is)
    (case kpck => k_is)
    (case awrd => k_is)
    (case lwrd => k_is)
    (case cwrd => k_is)
    (case kwrd => k_is)
    (case awor => k_is)
    (case lwor => k_is)
    (case cwor => k_is)
    (case kwor => k_is)
    (case afrs => k_is)
    (case lfrs => k_is)
    (case cfrs => k_is)
    (case kfrs => k_is)
    (case alpt => k_is)
    (case llpt => k_is)
    (case clpt => k_is)
    (case klpt => k_is)
    (case ascr => k_is)
    (case lscr => k_is)
    (case cscr => k_is)
    (case kscr => k_is)
    (case afrm => k_is)
    (case lfrm => k_is)
    (case cfrm => k_is)
    (case kfrm => k_is)
    (case alwd => k_is)
    (case llwd => k_is)
    (case clwd => k_is)
    (case klwd => k_is)
    (case alwt => k_is)
    (case llwt => k_is)
    (case clwt => k_is)
    (case klwt => k_is)
    (case alip => k_is)
    (case llip => k_is)
    (case clip => k_is)
    (case klip => k_is)
    (case amny => k_is)
    (case lmny => k_is)
    (case cmny => k_is)
    (case kmny => k_is)
    (case alsc => k_is)
    (case llsc => k_is)
    (case clsc => k_is)
    (case klsc => k_is)
    (case ashn => k_is)
    (case lshn => k_is)
    (case cshn => k_is)
    (case kshn => k_is)
    (case altx => k_is)
    (case lltx => k_is)
    (case cltx => k_is)
    (case kltx => k_is)
    (case aatm => k_is)
    (case latm => k_is)
    (case catm => k_is)
    (case katm => k_is)
    (case alne => k_is)
    (case llne => k_is)
    (case clne => k_is)
    (case klne => k_is)
    (case alrd => k_is)
    (case llrd => k_is)
    (case clrd => k_is)
    (case klrd => k_is)
    (case aspo => k_is)
    (case lspo => k_is)
    (case cspo => k_is)
    (case kspo => k_is)
    (case atld => k_is)
    (case ltld => k_is)
    (case ctld => k_is)
    (case ktld => k_is)
    (case alaw => k_is)
    (case llaw => k_is)
    (case claw => k_is)
    (case klaw => k_is)
    (case zisinstance => k_is)
    (case zstr => k_is)
    (case zint => k_is)
    (case zbool => k_is)
    (case ztuple => k_is)
    (case zlen => k_is)
    (case zall => k_is)
    (case zlist => k_is)
    (case zrange => k_is)
    (case zrepr => k_is)
    (case zzip => k_is)
    (case zmax => k_is)
    (case zValueError => k_is)
    (case yMOST_LETTERS => k_is)
    (case yFARTHEST => k_is)
    (case yMOST_WORTHS => k_is)
    (case yWORTH_LEVELS => k_is)
    (case yLAST_RANK => k_is)
    (case yMOST_COUNT => k_is)
    (case yMOST_NAMES => k_is)
    (case yMOST_DEEDS => k_is)
    (case ySCRIPT_LEVELS => k_is)
    (case yMOST_FIGURES => k_is)
    (case xD => k_is)
    (case xDl => k_is)
    (case xDt => k_keys)
    (case xDp => (repeat (first | exact .nil | refine Paired.cons (My.ent_of rfl rfl (by k_is) ⟨_, _, rfl, rfl, by decide, by (repeat (first | exact .nil | refine .cons ⟨_, rfl⟩ ?_))⟩) ?_)))
    (case xDs => rfl)
    (case xC => k_is)
    (case xCl => k_is)
    (case xCt => k_keys)
    (case xCword => k_is)
    (case xCrank => k_is)
    (case xCcount => k_is)
    (case xCgap => k_is)
    (case xCdue => k_is)
    (case xCworth => k_is)
    (case xCnames => k_is)
    (case xS => k_is)
    (case xSl => k_is)
    (case xSc => exact ⟨_, _, rfl, rfl, by decide, by (repeat (first | exact .nil | refine .cons ⟨_, rfl⟩ ?_))⟩)
    (case xO => k_is)
    (case xOl => k_is)
    (case xOc => exact ⟨_, _, rfl, rfl, by decide, by (repeat (first | exact .nil | refine .cons ⟨_, rfl⟩ ?_))⟩)
    (case xQ => k_is)
    (case xQl => k_is)
    (case xQc => exact ⟨_, _, rfl, rfl, by decide, by (repeat (first | exact .nil | refine .cons ⟨_, rfl⟩ ?_))⟩)
    (case xX => k_is)
    (case xXl => k_is)
    (case xXs => k_is)
    (case xXg => k_is)
    (case xXh => k_is)
    (case xXr => k_is)
    (case xXi => k_is)
    (case xXt => k_is)
    (case xIl => k_is)
    (case xIc => k_is)
    (case xIk => k_is)
    (case xXk => k_is)
    (case xXe => k_is)
    (case xXy => k_is)
    (case xXd => k_is)
    (case xXm => first | kernel_rfl | rfl | k_is)
    (case xVV => k_is)
    (case xKc => k_is)
    (case xKs => first | kernel_rfl | rfl | k_is)
    (case xKt => first | kernel_rfl | rfl | k_is)
    (case xKm => first | kernel_rfl | rfl | k_is)
    (case xKV => first | kernel_rfl | rfl | k_is)
    (case xR1 => k_is)
    (case xR2 => k_is)
    (case xR3 => k_is)
    (case xK3 => first | kernel_rfl | rfl | k_is)

