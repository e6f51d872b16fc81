import PyProof.Rows.All
import Wide.All
import OpenK.AllK
import Wide.FinOn
import KE.KEqNest
import KE.KRevSl
import HandS.ForMost
import HandS.IsInst
import HandS.TupAny
import HandS.TupMul
import HandS.Star
import HandS.FStr
import HandS.Flow
import HandS.Conv
import HandS.Codes
import HandS.RaiseMore
import HandS.Style
import HandS.StrMore
import HandS.Zip
import KE.KDictZip
import KE.GoesEnum
import KE.GoesMore
import KE.KDictList
import HandS.Walk
import PySem.Challenge.RW_rankloop_k62_what_is_a_script
set_option Elab.async false
set_option linter.all false
set_option maxRecDepth 100000
set_option maxHeartbeats 4000000
namespace My
open PySem L2 PyProof.Rows
theorem iteN {c A B : Prop} [Decidable c] (hc : ¬ c) (h : B) : if decide c = true then A else B := by
  rw [decide_eq_false hc]
  exact iteF h
theorem iteY {c A B : Prop} [Decidable c] (hc : c) (h : A) : if decide c = true then A else B := by
  rw [decide_eq_true hc]
  exact iteT h
theorem iteB0 {b : Bool} {A B : Prop} (hb : b = false) (h : B) : if b = true then A else B := by
  rw [hb]
  exact iteF h
theorem iteB1 {b : Bool} {A B : Prop} (hb : b = true) (h : A) : if b = true then A else B := by
  rw [hb]
  exact iteT h
theorem Same.new {H H' : Hp} {p : Addr} {o : HO} (s : Same H H') (h : H' p = none) : Same H (upd H' p o) := fun b u e => by
  have e' := s b u e
  rw [upd_ne (ne_of_none e' h)]
  exact e'
theorem asg_of {te : TE} {g : TG} {b : TS} {D : Ends} {σ : L2.St} {H : Hp} (h : te σ H fun x H1 => g x σ H1 fun σ2 H2 => b D σ2 H2) : tSeq (tAsg te g) b D σ H := h
theorem lst_of {t : TA} {σ : L2.St} {H : Hp} {Q : VK} (h : t σ H fun xs H1 => xs.length ≤ sizeLine ∧ ∀ p, H1 p = none → Q (.ref p) (upd H1 p (.lst xs))) : tLst t σ H Q := h
theorem cons_of {ta : TE} {tr : TA} {σ : L2.St} {H : Hp} {Q : List V → Hp → Prop} (h : ta σ H fun x H1 => tr σ H1 fun xs H2 => Q (x :: xs) H2) : tCons ta tr σ H Q := h
theorem nx_of {a b : TS} {D : Ends} {r : VK} {k c : L2.St → Hp → Prop} {σ : L2.St} {H : Hp} (h : tSeq a b D σ H) : Ends.nx { nx := tSeq a b D, rt := r, bk := k, ct := c } σ H := h
section
variable {X : Cx}
/-! ### a tuple against (), a list against [] -/
def rEqT0 (K : PySem.W.Frag) : R2 := fun x y H Q => ∃ a b xs, x = .ref a ∧ y = .ref b ∧ SqT K H a xs ∧ SqT K H b [] ∧ Q (.bl xs.isEmpty) H
theorem op_eqT0 (hu : X.A.units + 64 < cLine) : OpR X (compareOp .Eq) (rEqT0 X.K) := by
  intro pins s σ H x y v u Q I rx ry h
  obtain ⟨a, b, xs, rfl, rfl, ha, hb, q⟩ := h
  cases (show v = Value.ref a from rx)
  cases (show u = Value.ref b from ry)
  obtain ⟨its, r1, p1, _⟩ := I.tuple ha
  obtain ⟨its2, r2, p2, _⟩ := I.tuple hb
  cases r2
  refine PySem.W.eq_tuplesT (n := 0) (e := fun _ => true) p1 p2 (fun j h1 h2 => absurd h2 (by simp)) (by omega) ⟨.bl xs.isEmpty, H, I, ?_, q⟩
  have hl := r1.length
  show Value.bool _ = Value.bool _
  cases xs with
  | nil =>
    cases r1
    rfl
  | cons x xs =>
    cases its with
    | nil => cases r1
    | cons i is => simp
def rEqL0 (K : PySem.W.Frag) : R2 := fun x y H Q => ∃ a b xs, x = .ref a ∧ y = .ref b ∧ SqL K H a xs ∧ SqL K H b [] ∧ Q (.bl xs.isEmpty) H
theorem op_eqL0 (hu : X.A.units + 64 < cLine) : OpR X (compareOp .Eq) (rEqL0 X.K) := by
  intro pins s σ H x y v u Q I rx ry h
  obtain ⟨a, b, xs, rfl, rfl, ha, hb, q⟩ := h
  cases (show v = Value.ref a from rx)
  cases (show u = Value.ref b from ry)
  obtain ⟨its, r1, p1, _⟩ := I.list ha
  obtain ⟨its2, r2, p2, _⟩ := I.list hb
  cases r2
  cases xs with
  | nil =>
    cases r1
    exact PySem.W.eq_listsT (n := 0) (e := fun _ => true) p1.isList p2.isList rfl (fun j h1 h2 => absurd h2 (by simp)) (by omega) ⟨.bl true, H, I, rfl, q⟩
  | cons x xs =>
    cases its with
    | nil => cases r1
    | cons i is => exact SeqAt.eq_list_lengthsAt p1.isList p2.isList (by simp) (by omega) ⟨.bl false, H, I, rfl, q⟩
/-! ### t * 1 -/
theorem tuple_mul1 (l : Addr) (items : Array Value) (n : Nat) (dd : Option Addr) (sl : Array (Option Value)) (u : Tok) :
    Meets (Builtin.«tuple.__mul__» ⟨[.ref l, .int 1 u], []⟩) (fun _ R s => s.heap.get? l = some { cls := .type "tuple", dict := dd, data := .seq items n, slots := sl } ∧ R (.ok (.ret (Value.ref l))) s) :=
  .of_wp fun prog w A R s h => by
    obtain ⟨hp, g, d, tk, os⟩ := s
    obtain ⟨hl, h⟩ := h
    have f1 := AutoSeq1.idx_int
    wp_walk using wpAny_loadPart' hl
    exact ⟨_, rfl, h⟩
def rRepA (K : PySem.W.Frag) : R2 := fun x y H Q => ∃ l k xs, x = .ref l ∧ y = .int k ∧ SqT K H l xs ∧ xs ≠ [] ∧ 1 ≤ k ∧ k ≤ 1000 ∧ xs.length ≤ 1000 ∧
  (k = 1 → Q (.ref l) H) ∧ (2 ≤ k → ∀ p, H p = none → Q (.ref p) (upd H p (.tup (List.replicate k.toNat xs).flatten)))
theorem op_repA : OpR X (binaryOp .Mult) (rRepA X.K) := by
  intro pins s σ H x y v u Q I rx ry h
  obtain ⟨l, k, xs, rfl, rfl, hT, hne, h1, h2, hz, q1, q2⟩ := h
  by_cases hk : k = 1
  · subst hk
    cases rx
    obtain ⟨t, rfl⟩ := ry
    obtain ⟨its, r, ⟨⟨cls, dd, data, sl⟩, ho, hc, n, hd⟩, hs⟩ := I.tuple hT
    simp only at hc hd
    subst hc hd
    exact wpAny_binaryOp_repeat_ref (T := "tuple") (U := "int") (by decide) ⟨_, ho, rfl⟩ (fun s' => typeIs_int s' 1 t) noFill_tuple_mul F.fills_int_mul F.slot_int_rmul repeat_tuple F.slot_int_index.lookup
      (call_meets F.slot_int_rmul (typeIs_int s 1 t) F.entry_int_rmul (F.args_int_rmul_2 _ _) (int_rmul_tuple 1 t l its.toArray n dd sl)
        ⟨ho, rfl, ⟨_, ho, rfl⟩, call_meets F.slot_tuple_mul ⟨_, ho, rfl⟩ F.entry_tuple_mul (F.args_tuple_mul_2 _ _) (tuple_mul1 l its.toArray n dd sl t) ⟨ho, .ref l, H, I, rfl, q1 rfl⟩⟩)
  · exact op_repT pins s σ H _ _ v u Q I rx ry ⟨l, k, xs, rfl, rfl, hT, hne, by omega, h2, hz, q2 (by omega)⟩
/-! ### t[::-1] -/
theorem applied_rev {prog : Program} {w : World} {A : Around} {E : Value → Shared → Prop} {s : Shared} {sl : Addr} {vl vu vs : Value} {n : Nat} {Q : Int × Int × Nat → Shared → Prop} (hs : s.heap.IsSliceOf sl vl vu vs) (pl : IsPart vl none) (pu : IsPart vu none) (ps : IsPart vs (some (-1)))
    (h : Q ((n : Int) - 1, -1, n) s) : wpAny (model prog w) A (Builtin.Slice.sliceApplied (.ref sl) (pure (n : Int))) Q E s := by
  obtain ⟨os, hos, hcs, hds⟩ := id hs
  unfold Builtin.Slice.sliceApplied Builtin.Slice.sliceFields
  refine wpAny_bind (wpAny_bind (wpAny_field hos hds (x := vl) rfl (wpAny_bind (wpAny_field hos hds (x := vu) rfl (wpAny_bind (wpAny_field hos hds (x := vs) rfl (wpAny_pure ?_)))))))
  refine wpAny_bind (HT.slicePart_ ps ?_)
  show wpAny _ _ (if ((-1 : Int) == 0) = true then _ else _) _ _ s
  rw [if_neg (by decide)]
  refine wpAny_bind (HT.slicePart_ pl (wpAny_bind (HT.slicePart_ pu (wpAny_bind (wpAny_pure ?_)))))
  show wpAny _ _ (pure ((n : Int) - 1, (-1 : Int), Builtin.Slice.slicePlaces ((n : Int) - 1) (-1) (-1))) _ _ s
  have e : Builtin.Slice.slicePlaces ((n : Int) - 1) (-1) (-1) = n := by
    unfold Builtin.Slice.slicePlaces
    rw [if_neg (by decide)]
    by_cases hn : (n : Int) - 1 > -1
    · rw [if_pos hn, show (- -1 : Int) = 1 by decide, Int.ediv_one]; omega
    · rw [if_neg hn]; omega
  rw [e]
  exact wpAny_pure h
theorem pick_rev (xs : Array Value) : ((List.range xs.size).filterMap fun (m : Nat) => xs[((xs.size : Int) - 1 + (m : Int) * (-1)).toNat]?).toArray = xs.toList.reverse.toArray := by
  have e : ((List.range xs.size).filterMap fun (m : Nat) => xs[((xs.size : Int) - 1 + (m : Int) * (-1)).toNat]?) = ((List.range xs.size).map fun k => xs.size - 1 - k).filterMap (xs[·]?) := by
    rw [List.filterMap_map]
    refine congrArg (fun g => List.filterMap g (List.range xs.size)) ?_
    funext m
    show xs[((xs.size : Int) - 1 + (m : Int) * (-1)).toNat]? = xs[xs.size - 1 - m]?
    exact congrArg (fun z => xs[z]?) (by omega)
  rw [e, PySem.W.krv_range, List.filterMap_reverse, PySem.W.krv_all]
theorem item_rev {prog : Program} {w : World} {A : Around} {E : Value → Shared → Prop} {s : Shared} {t sl : Addr} {items : Array Value} {vl vu vs : Value} {Q : Value → Shared → Prop} (ht : IsTup s.heap t items) (hs : s.heap.IsSliceOf sl vl vu vs) (pl : IsPart vl none) (pu : IsPart vu none) (ps : IsPart vs (some (-1)))
    (h : Q (.ref s.heap.objs.size) { s with heap := s.heap.push { cls := .type "tuple", data := .seq items.toList.reverse.toArray } }) (hz : items.size ≤ sizeLine) : wpAny (model prog w) A (getItem (.ref t) (.ref sl)) Q E s := by
  have fits : sizeOk (.seq items.toList.reverse.toArray) := by
    show items.toList.reverse.toArray.size ≤ sizeLine
    rw [List.size_toArray, List.length_reverse, Array.length_toList]
    exact hz
  obtain ⟨os, hos, hcs, hds⟩ := id hs
  have hTs : s.TypeIs (.ref sl) "slice" := ⟨os, hos, hcs⟩
  unfold getItem
  try with_reducible refine wpAny_holding ?_
  first | refine wpAny_bind (wpAny_pure ?_) | skip
  refine wpAny_bind (wpAny_sequenceKey ht.typeIs (by decide) ?_)
  refine wpAny_bind (wpAny_callSpecial?_slot (name := Str.ofString "__getitem__") ht.typeIs PyProof.Rows.slot_tuple_getitem (wpAny_call_entry PyProof.Rows.slot_tuple_getitem ht.typeIs entry_tuple_getitem ?_ (args_tuple_getitem _ _)))
  show wpAny _ _ (Builtin.Tuple.tupleItemsOf (.ref t) >>= _) _ _ s
  refine wpAny_bind (tupleItemsOf_ ht ?_)
  refine wpAny_bind (wpAny_typeOf hTs ?_)
  rw [if_pos (by decide)]
  refine wpAny_bind (applied_rev hs pl pu ps ?_)
  have hno : ¬ (((items.size : Int) - 1 == 0 && (-1 : Int) == 1 && items.size == items.size) = true) := by simp
  show wpAny _ _ (if ((items.size : Int) - 1 == 0 && (-1 : Int) == 1 && items.size == items.size) = true then _ else _) _ _ s
  rw [if_neg hno, pick_rev]
  first
    | exact wpAny_bind (m := Builtin.Tuple.tupleExact _) (wpAny_newObj_type (wpAny_pure ⟨_, rfl, wpAny_pure h⟩) fits)
    | exact wpAny_bind (m := Builtin.Tuple.tupleExact _) (wpAny_newObj_type (wpAny_bind (wpAny_pure (wpAny_pure ⟨_, rfl, wpAny_pure h⟩))) fits)
    | exact wpAny_bind (wpAny_bind (m := Builtin.Tuple.tupleExact _) (wpAny_newObj_type (wpAny_pure (wpAny_pure ⟨_, rfl, wpAny_pure h⟩)) fits))
    | exact wpAny_bind (wpAny_bind (m := Builtin.Tuple.tupleExact _) (wpAny_newObj_type (wpAny_pure ⟨_, rfl, wpAny_pure h⟩) fits))
def tRevT (K : PySem.W.Frag) (te : TE) : TE := fun σ H Q => te σ H fun x H1 => ∃ a xs, x = .ref a ∧ SqT K H1 a xs ∧ ∀ p, H1 p = none → Q (.ref p) (upd H1 p (.tup xs.reverse))
theorem pe_revT {e : Expr} {te : TE} {k : Nat} {p1 p2 p3 pos : Pos} (he : PE X e te) : PE X (.Subscript e (.Slice none none (some (.UnaryOp .USub (.Constant (.int 1) k p1) p2)) p3) pos) (tRevT X.K te) := by
  refine ⟨fun pins s σ H Q I h => ?_⟩
  refine Subscript_ (thn (he.run pins s σ H _ I h) fun v s1 ⟨x, H1, I1, r1, q1⟩ => ?_)
  obtain ⟨a, xs, ex, hx, q⟩ := q1
  subst ex
  cases r1
  have hst : PO X (some (.UnaryOp .USub (.Constant (.int 1) k p1) p2)) (tPart (tUn (rU fun i => .int (-i)) (tC (.int 1)))) := po_some (pe_un un_neg pe_int)
  refine wpAny_Slice (thn (po_none.run pins s1 σ H1 (fun o H2 => o = none ∧ H2 = H1) I1 ⟨rfl, rfl⟩) fun vl s2 ⟨l, H2, I2, pl, el, e2⟩ => ?_)
  subst el e2
  refine thn (po_none.run pins s2 σ H2 (fun o H3 => o = none ∧ H3 = H2) I2 ⟨rfl, rfl⟩) fun vu s3 ⟨u, H3, I3, pu, eu, e3⟩ => ?_
  subst eu e3
  refine thn (hst.run pins s3 σ H3 (fun o H4 => o = some (-1) ∧ H4 = H3) I3 ⟨1, rfl, -1, rfl, rfl, rfl⟩) fun vs s4 ⟨o, H4, I4, ps, eo, e4⟩ => ?_
  subst eo e4
  have I5 : Inv X pins σ H4 { s4 with heap := s4.heap.push { cls := .type "slice", data := .fields #[vl, vu, vs] } } := I4.kept (t' := s4.toks) fun b ob q => Heap.get?_push_of_some _ q
  obtain ⟨its, r, ht, hz⟩ := I5.tuple hx
  have hlen := r.length
  show wpAny (model X.prog X.w) X.A (subscriptTail e (.Slice none none (some (.UnaryOp .USub (.Constant (.int 1) k p1) p2)) p3) (.ref a) (.ref s4.heap.objs.size)) (EP X pins σ Q) X.xe { s4 with heap := s4.heap.push { cls := .type "slice", data := .fields #[vl, vu, vs] } }
  refine tail_any (ops := [.ref a, .ref s4.heap.objs.size]) ht.typeIs (PyProof.Rows.slot_tuple_getitem.lookup) ?_ (by with_unfolding_all rfl)
  refine item_rev ht (Heap.IsSliceOf.new _ vl vu vs) pl pu ps ?_ (by rw [List.size_toArray]; omega)
  refine ⟨.ref _, _, I5.laid (t' := s4.toks) (o := .tup xs.reverse) (fun b ob q => Heap.get?_push_of_some _ q) (Nat.le_refl _) ?_, rfl, q _ (I5.hok.fresh (Nat.le_refl _))⟩
  exact ⟨by rw [List.length_reverse]; exact hz, _, r.reverse, IsTup.new _ _⟩
/-! ### a def called by names alone -/
theorem pe_kw0 {CX : CXT} {k : Nat} {f : Addr} {fd : FuncData} {ps ks : List Str} {sp : Sp} {E : XK} {x : Str} {p pos : Pos} {kws : List Keyword} {tk : TA} {g : List Value → List Value → List Value} {gV : List V → List V → List V}
    (F : FnOk X.prog X.w X.K X.mg X.base CX k f fd ps sp) (hr : Room k X.A) (hg : Gl X x) (hm : X.mg x = some (.ref f)) (hk : PySem.W.keepIn X.K (.ref f) = true) (hb : KBinds X.K fd ps ks g gV) (hx : Passes CX X E) (hkw : PK X kws tk)
    (hall : (backToKw pos (keywordEach kws X.env)).all (·.1.isSome) = true := by rfl) (hks : (backToKw pos (keywordEach kws X.env)).filterMap (·.1) = ks := by rfl) (hdb : (x == ("__debug__" : Str)) = false := by decide)
    (hpl : ((backTo pos (starEach [] X.env)).any (·.1) || (backToKw pos (keywordEach kws X.env)).any (·.1.isNone)) = false := by rfl) :
    PE X (.Call (.Name x p) [] kws pos) (tCallK sp gV E tNil tk) := by
  refine ⟨fun pins s σ H Q I h => ?_⟩
  refine wpAny_Call_Name_kw (ld_glob I hg hm ?_ hdb)
  refine PySem.W.callWith_KW0 (h₀ := X.base) I.ok.mod.kin hk hall ?_ hpl
  refine thn (hkw.run pos pins s σ H _ I h) fun ws s2 ⟨zs, H2, I2, rz, q2⟩ => ⟨I2.kIn, ?_⟩
  rw [hks]
  exact run_fnk (us := []) (vs := []) F hr hb hx I2 .nil rz q2
/-! ### a comprehension over a text -/
theorem lc_str {x : Str} {g : TG} {tt : TT} {te : TE} {vs : List Nat} {σ : L2.St} {H1 : Hp} {D : Addr} {Qd : Hp → Prop} (Pv : Nat → Hp → Prop) (h0 : Pv 0 (upd H1 D (.lst [])))
    (hs : ∀ i c H, x.cps[i]? = some c → Pv i H → g (.str ⟨#[c]⟩) (wipe σ vs) H fun σ2 H2 => wipe σ2 vs = wipe σ vs ∧ tt σ2 H2 fun b H3 =>
      if b = true then te σ2 H3 fun y H4 => ∃ acc, H4 D = some (.lst acc) ∧ acc.length < sizeLine ∧ Pv (i + 1) (upd H4 D (.lst (acc ++ [y]))) else Pv (i + 1) H3) (hd : ∀ H, Pv x.cps.size H → Qd H) :
    ∃ W : Nat → Nat → Hp → Prop, (∃ m, W 0 m (upd H1 D (.lst []))) ∧ ∀ i m H, W i m H →
      ((Its x).stop i H ∧ Qd H) ∨ ((Its x).go i H ∧ ∃ Nx : Hp → Prop, (∀ H', Nx H' → ∃ m', m' < m ∧ W (i + 1) m' H') ∧ ∀ y H', (Its x).yld i H y H' → g y (wipe σ vs) H' fun σ2 H2 => wipe σ2 vs = wipe σ vs ∧ tt σ2 H2 fun b H3 =>
        if b = true then te σ2 H3 fun y H4 => ∃ acc, H4 D = some (.lst acc) ∧ acc.length < sizeLine ∧ Nx (upd H4 D (.lst (acc ++ [y]))) else Nx H3) := by
  refine ⟨fun i m H => m = x.cps.size - i ∧ i ≤ x.cps.size ∧ Pv i H, ⟨_, rfl, Nat.zero_le _, h0⟩, ?_⟩
  rintro i m H ⟨rfl, hi, p⟩
  by_cases hlt : i < x.cps.size
  · refine .inr ⟨hlt, Pv (i + 1), fun H' p' => ⟨x.cps.size - (i + 1), by omega, rfl, hlt, p'⟩, fun y H' hy => ?_⟩
    obtain ⟨rfl, c, hc, rfl⟩ := hy
    exact hs i c _ hc p
  · have e : i = x.cps.size := by omega
    subst e
    exact .inl ⟨Nat.le_refl _, hd _ p⟩
end
end My

set_option Elab.async false
set_option linter.all false
set_option maxRecDepth 100000
set_option maxHeartbeats 4000000
namespace My
open PySem L2 PyProof.Rows
/-- repr of a list that is read as plain data; the def is called where nothing else is being shown -/
theorem call_reprL {X : Cx} (hg : X.A.guards = some []) (hu : X.A.units + 64 < cLine) : CallR X (.builtin "repr") (fun xs H Q => ∃ a d, xs = [.ref a] ∧ Dp X.K H (.ref a) d ∧ d.showable = true ∧ d.hasDict = false ∧ d.depth ≤ 60 ∧ d.shown.length ≤ sizeLine ∧ Q (.str d.shown) H) := by
  intro pins s σ H xs us Q I r h
  obtain ⟨a, d, rfl, hd, h1, h2, h3, h4, q⟩ := h
  obtain ⟨u, rfl, ru⟩ := vals1 r
  cases (show u = Value.ref a from ru)
  obtain ⟨as, rd⟩ := Dp.reads I d _ _ hd rfl
  exact repr_of_reads' rd h1 (PyData.noDict_hsm h2) hg (by omega) (fun _ _ e => e) (fun h' u tk hk => ⟨.str _, H, I.kept (t' := tk) hk, ⟨_, rfl⟩, q⟩) h4
/-- a def's promise where nothing is being shown around it -/
structure FnG (P : Program) (w : World) (K : PySem.W.Frag) (mg : Str → Option Value) (base : Heap) (k : Nat) (f : Addr) (fd : FuncData) (ps : List Str) (sp : Sp) : Prop where
  run : ∀ (A : Around) (outer : List Env) (s : Shared) (H : Hp) (args : Args) (us : List Value) (vs : List V) (Q : VK) (E : XK), A.guards = some [] → Room k A → Env0 P w K mg base A outer s H → BindsTo s fd args (ps.zip us) → Vals vs us → sp vs H Q E →
    codeAny (model P w) A (.call (.ref f) args) (CR CX0 outer P w H s Q E) s
theorem okG {P : Program} {w : World} {K : PySem.W.Frag} {mg : Str → Option Value} {base : Heap} {x qual : Str} {st : Stmt} {f : Addr} {fd : FuncData} {N ps : List Str} {k : Nat} {sp : Sp} (F : Fun K x qual st f fd) (S : FnScope N ps (defScope st)) (len : ∀ vs H Q E, sp vs H Q E → vs.length = ps.length)
    (hbody : ∀ (cdv : Value) (A : Around) (outer : List Env) (s : Shared) (H : Hp) (vs : List V) (Q : VK) (E : XK), A.guards = some [] → Room k (A.deeper (envOfC qual (defScope st) s.heap.objs.size f cdv)) → sp vs H Q E →
      ∃ t, PSs (cxOf CX0 P w K mg base N qual (defScope st) f cdv A outer s H E).nox (defBody st) t ∧ t { nx := fun _ H' => Q .non H', rt := Q } (start N vs) H) : FnG P w K mg base (k + 1) f fd ps sp := by
  refine ⟨fun A outer s H args us vs Q E hg => ?_⟩
  obtain ⟨oc, od, kV, doc, pm, an, cdv, ct, osl, rfl, lk, hcd⟩ := F.ex
  intro hr e0 hb r hsp
  have hl := len _ _ _ _ hsp
  have KX : K.In s.heap := e0.mod.kin.keeps fun b o e => (e0.bs b o e).1
  have lim : s.heap.NoLimit := e0.mod.nolimit.keeps fun b o e => (e0.bs b o e).1
  have kinds : ∀ y ∈ ps.zip us, (defScope st).names.lookup y.1 = some .local ∨ ((defScope st).names.lookup y.1 = some .cell ∧ ((cellsFrom (s.heap.objs.size + 1) (defScope st).names []).lookup y.1).isSome = true) := by
    rintro ⟨n, v⟩ hy
    rcases S.par n (List.of_mem_zip hy).1 with q | q
    · exact .inl q
    · exact .inr ⟨q, PySem.W.cellsFrom_some _ _ _ (.inl q)⟩
  refine codeAny_call_function hr.depth (KX _ _ lk) rfl S.co S.gen rfl (PySem.W.codeRec_of KX hcd) (hb _ _ _ _ ?_)
  refine wpAny_newFunctionEnv_cells S.kind kinds fun env he s1 x => ?_
  subst he
  refine ⟨lim.keeps x.toInCall.keep, codeAny_func ?_⟩
  obtain ⟨t, ht0, hq⟩ := hbody cdv A outer s H vs Q E hg (hr.deeper _) hsp
  have ht := ht0.nox
  have I : Inv (cxOf CX0 P w K mg base N qual (defScope st) f cdv A outer s H E) [] (start N vs) H s1 := inv_start S hr.hd e0 hl r x
  refine wpAny_mono (ht.run [] s1 (start N vs) H _ I hq) (fun fl s' hs => ?_) fun e s' hs => hs
  have fin : ∀ {σ' : L2.St} {H' : Hp} {v : V} {u : Value}, Inv (cxOf CX0 P w K mg base N qual (defScope st) f cdv A outer s H E) [] σ' H' s' → RelV v u → Q v H' → CE outer P w H s Q u s' := fun {σ' H' v u} J rv q =>
    ⟨v, H', J.os, J.bare, J.base, J.hok, rv, q⟩
  cases fl with
  | ret u =>
    obtain ⟨v, σ', H', J, rv, q⟩ := hs
    exact fin J rv q
  | next =>
    obtain ⟨σ', H', J, q⟩ := hs
    exact fin (v := V.non) (u := Value.none) J rfl q
  | brk =>
    obtain ⟨σ', H', J, q⟩ := hs
    exact q.elim
  | cont =>
    obtain ⟨σ', H', J, q⟩ := hs
    exact q.elim
/-- the law's call, from such a promise -/
theorem law_callG {P : Program} {w : World} {K : PySem.W.Frag} {mg mb : Str → Option Value} {k : Nat} {fa a : Addr} {fd : FuncData} {x : Str} {sp : Sp} {s1 : Shared} {vs : List Value} {ns : List Int}
    (KX : K.In s1.heap) (hns : s1.heap.Ns mainGlobals mg) (hb : s1.heap.Ns builtinsNs mb) (hbb : ∀ x : Str, x ≠ "__name__" → mb x = bootBuiltins x) (hlim : s1.heap.NoLimit) (hg : s1.gens = #[])
    (ha : s1.heap.get? a = some { cls := .type "list", data := .seq vs.toArray }) (hi : IntsAre vs ns) (hl : ns.length ≤ sizeLine) (hr : Room k callerA)
    (F : ∀ base : Heap, K.In base → base.Ns mainGlobals mg → FnG P w K mg base k fa fd [x] sp) (hbind : ∀ (s : Shared) (u : Value), BindsTo s fd ⟨[u], []⟩ [(x, u)])
    (hsp : ∀ H : Hp, SqL K H a (ns.map V.int) → sp [.ref a] H (fun v _ => v = .bl true) fun _ _ _ => False) :
    codeAny (model P w) callerA (.call (.ref fa) ⟨[.ref a], []⟩) (fun r s' => r = .ok (.ret (.bool true)) ∧ OldK s1.heap s'.heap ∧ s'.os = s1.os ∧ AllBare s'.gens) s1 := by
  have rv := vals_ints hi
  have lenV := hi.length
  have core : ∀ H : Hp, Only H → SqL K H a (ns.map V.int) → HOk P w H s1.heap → (∀ b, H b ≠ none → b = a) → (H a ≠ none → K.lookup a = none) →
      codeAny (model P w) callerA (.call (.ref fa) ⟨[.ref a], []⟩) (fun r s' => r = .ok (.ret (.bool true)) ∧ OldK s1.heap s'.heap ∧ s'.os = s1.os ∧ AllBare s'.gens) s1 := by
    intro H hO hS hok hA hK
    have free : ∀ {b : Addr} {o : Obj} {es : Array DictEntry} {ep : Nat}, s1.heap.get? b = some o → o.data = .dict es ep → H b = none := by
      intro b o es ep e dt
      cases hb' : H b with
      | none => rfl
      | some u =>
        have eb : b = a := hA b (by rw [hb']; simp)
        subst eb
        rw [ha] at e
        cases e
        cases (show Data.seq vs.toArray _ = Data.dict es ep from dt)
    have nsK : ∀ {b : Addr} {m : Str → Option Value}, s1.heap.Ns b m → (hidT s1.heap H).Ns b m := by
      rintro b m ⟨o, es, ep, e, dt, r⟩
      exact ⟨o, es, ep, hidT_get e (free e dt), dt, r⟩
    have hKb : K.In (hidT s1.heap H) := by
      intro b o e
      refine hidT_get (KX b o e) ?_
      cases hb' : H b with
      | none => rfl
      | some u =>
        have eb : b = a := hA b (by rw [hb']; simp)
        subst eb
        rw [hK (by rw [hb']; simp)] at e
        cases e
    have hM : Mod K mg (hidT s1.heap H) := ⟨hKb, nsK hns, ⟨mb, nsK hb, hbb⟩, let ⟨mc, h1, h2⟩ := hlim; ⟨mc, nsK h1, h2⟩⟩
    have e0 : Env0 P w K mg (hidT s1.heap H) callerA [] s1 H :=
      ⟨rfl, hM, fun b o e => of_hidT e, Nat.le_of_eq (hidT_size _ _), trivial, fun b hb => absurd (show b ∈ ([] : List Addr) from hb) (by simp), hok, .of_eq hg⟩
    refine codeAny_mono ((F _ hKb (nsK hns)).run callerA [] s1 H ⟨[.ref a], []⟩ [.ref a] [.ref a] _ _ rfl hr e0 (hbind s1 (.ref a)) (.cons rfl .nil) (hsp H hS)) fun r s' h => ?_
    cases r with
    | error e => exact False.elim h
    | ok fl =>
      cases fl with
      | next => exact False.elim h
      | brk => exact False.elim h
      | cont => exact False.elim h
      | ret u =>
        obtain ⟨v, H', os, bare, un, hok', r', q⟩ := h
        cases (show v = .bl true from q)
        obtain rfl : u = Value.bool true := r'
        refine ⟨rfl, OldK.of_keep fun b o e => ?_, os, bare⟩
        cases hb' : H b with
        | none => exact un.keep b o e hb' (by intro z; exact absurd (show b ∈ ([] : List Addr) from z) (by simp)) (by simp)
        | some u =>
          rcases hO b with z | ⟨ob, xs, z⟩
          · rw [hb'] at z; cases z
          · obtain ⟨e1, _⟩ := hok b _ z
            obtain ⟨e2, _⟩ := hok' b _ (un.frzs b ob _ z)
            rw [e] at e1
            cases e1
            exact e2
  cases hk : K.lookup a with
  | some o =>
    have e := KX a o hk
    rw [ha] at e
    cases e
    exact core (fun _ => none) (fun _ => .inl rfl) (.inr ⟨_, vs.toArray, _, hk, rfl, rfl, rfl, by rw [List.size_toArray, lenV]; exact hl, by simpa using rv⟩) (fun b u z => by cases (show (none : Option HO) = some u from z)) (fun b z => absurd rfl z) fun z => absurd rfl z
  | none =>
    refine core (fun b => if b = a then some (.frz { cls := .type "list", data := .seq vs.toArray } (.lst (ns.map V.int))) else none) (fun b => ?_) (.inl (.inr ⟨{ cls := .type "list", data := .seq vs.toArray }, if_pos rfl⟩)) (fun b u z => ?_) (fun b z => ?_) fun _ => hk
    · by_cases eb : b = a
      · exact .inr ⟨_, _, if_pos eb⟩
      · exact .inl (if_neg eb)
    · by_cases eb : b = a
      · cases ((if_pos eb).symm.trans z)
        subst eb
        exact ⟨ha, by rw [List.length_map]; exact hl, vs, _, rv, ha⟩
      · cases ((if_neg eb).symm.trans z)
    · by_cases eb : b = a
      · exact eb
      · exact absurd (if_neg eb) z
theorem walkG {l : PySem.W.OpenLaw} {n k : Nat} {q : Program} {loose : List Str} {XP : (Str → Option Value) → Heap → Prop} {YP : World → Heap → Prop} {d : DefRec} {K : Params → PySem.W.Frag} {sp : World → Sp} {x : Str}
    (hn : l.most = some n) (hn2 : n ≤ sizeLine) (hdf : d.params.defaults = []) (hr : Room k callerA) (hY : ∀ (w : World) (h : Heap), YP w h → (K w.params).In h)
    (F : ∀ (w : World) (mg : Str → Option Value) (fa : Addr) (h : Heap), (K w.params).In h → h.Ns mainGlobals mg → mg d.name = some (.ref fa) →
      ∃ fd : FuncData, (∀ (s : Shared) (u : Value), BindsTo s fd ⟨[u], []⟩ [(x, u)]) ∧ ∀ base : Heap, (K w.params).In base → base.Ns mainGlobals mg → FnG l.prog w (K w.params) mg base k fa fd [x] (sp w))
    (hsp : ∀ (w : World) (H : Hp) (a : Addr) (ns : List Int), ns.length ≤ n → SqL (K w.params) H a (ns.map V.int) → sp w [.ref a] H (fun v _ => v = .bl true) fun _ _ _ => False) :
    PySem.W.WalkO q loose XP YP l.row.toRowW d [] (fun f vs => PySem.call f vs) := by
  refine Att.attach_call hn hdf fun w s0 s1 mg mb fa o pm cd doc a vs ns G Y ho hd hcd hmg hobj hints hlen hg => ?_
  have KX := hY w _ Y
  obtain ⟨fd, hb, hF⟩ := F w mg fa _ KX G.T.g hmg
  exact law_callG KX G.T.g G.T.b G.T.builtins G.T.nolimit hg hobj hints (Nat.le_trans hlen hn2) hr hF hb (fun H hS => hsp w H a ns hlen hS)
end My

set_option Elab.async false
set_option linter.all false
set_option maxRecDepth 100000
set_option maxHeartbeats 4000000
namespace My
open PySem L2
/-! ### things as trees -/
def base (H : Hp) (T : V → List PyData → Prop) (v : V) : PyData → Prop
  | .none => v = .non
  | .bool b => v = .bl b
  | .int i => v = .int i
  | .str x => v = .str x
  | .list _ => ∃ a xs, v = .ref a ∧ H a = some (.lst xs)
  | .dict _ => ∃ a, v = .ref a ∧ H a = some (.dK [])
  | .tuple ds => T v ds
/-- v is the tree d, tuples at most n within one another; of a list and a dict only that they are such -/
def Rep (H : Hp) : Nat → V → PyData → Prop
  | 0 => base H fun _ _ => False
  | n + 1 => base H fun v ds => ∃ a xs, v = .ref a ∧ H a = some (.tup xs) ∧ Paired (Rep H n) xs ds
theorem base_mono {H H' : Hp} {T T' : V → List PyData → Prop} {v : V} {d : PyData} (hl : ∀ a xs, H a = some (.lst xs) → H' a = some (.lst xs)) (hd : ∀ a, H a = some (.dK []) → H' a = some (.dK [])) (ht : ∀ ds, T v ds → T' v ds)
    (h : base H T v d) : base H' T' v d := by
  cases d with
  | none => exact h
  | bool b => exact h
  | int i => exact h
  | str x => exact h
  | list ds =>
    obtain ⟨a, xs, e, q⟩ := h
    exact ⟨a, xs, e, hl a xs q⟩
  | dict kvs =>
    obtain ⟨a, e, q⟩ := h
    exact ⟨a, e, hd a q⟩
  | tuple ds => exact ht ds h
theorem Rep.mono {H : Hp} : ∀ {n m : Nat} {v : V} {d : PyData}, n ≤ m → Rep H n v d → Rep H m v d
  | 0, 0, _, _, _, h => h
  | 0, m + 1, _, _, _, h => base_mono (fun _ _ q => q) (fun _ q => q) (fun _ z => z.elim) h
  | n + 1, 0, _, _, h, _ => absurd h (by omega)
  | n + 1, m + 1, v, d, hm, h => base_mono (fun _ _ q => q) (fun _ q => q) (fun ds ⟨a, xs, e, q, p⟩ => ⟨a, xs, e, q, Paired.mapP p fun _ _ z => Rep.mono (by omega) z⟩) h
/-- all but what stands at d is kept -/
def Kp (d : Addr) (H H' : Hp) : Prop := ∀ c o, H c = some o → c ≠ d → H' c = some o
theorem Kp.refl (d : Addr) (H : Hp) : Kp d H H := fun _ _ e _ => e
theorem Kp.trans {d : Addr} {H H1 H2 : Hp} (a : Kp d H H1) (b : Kp d H1 H2) : Kp d H H2 := fun c o e n => b c o (a c o e n) n
theorem Kp.of {d : Addr} {H H' : Hp} (s : Same H H') : Kp d H H' := fun c o e _ => s c o e
theorem Rep.keep {H H' : Hp} {d : Addr} {kvs : List (Key × V)} (hd : H d = some (.dK kvs)) (hne : kvs ≠ []) (k : Kp d H H') : ∀ {n : Nat} {v : V} {x : PyData}, Rep H n v x → Rep H' n v x := by
  have kl : ∀ a xs, H a = some (.lst xs) → H' a = some (.lst xs) := fun a xs e => k a _ e (ne_of e hd (by intro z; cases z))
  have kd : ∀ a, H a = some (.dK []) → H' a = some (.dK []) := fun a e => k a _ e (ne_of e hd (by intro z; exact hne (HO.dK.inj z).symm))
  intro n
  induction n with
  | zero =>
    intro v x h
    exact base_mono kl kd (fun _ z => z) h
  | succ n ih =>
    intro v x h
    exact base_mono kl kd (fun ds ⟨a, xs, e, q, p⟩ => ⟨a, xs, e, k a _ q (ne_of q hd (by intro z; cases z)), Paired.mapP p fun _ _ z => ih z⟩) h
theorem Rep.same {H H' : Hp} (s : Same H H') : ∀ {n : Nat} {v : V} {x : PyData}, Rep H n v x → Rep H' n v x := by
  intro n
  induction n with
  | zero =>
    intro v x h
    exact base_mono (fun _ _ e => s _ _ e) (fun _ e => s _ _ e) (fun _ z => z) h
  | succ n ih =>
    intro v x h
    exact base_mono (fun _ _ e => s _ _ e) (fun _ e => s _ _ e) (fun ds ⟨a, xs, e, q, p⟩ => ⟨a, xs, e, s _ _ q, Paired.mapP p fun _ _ z => ih z⟩) h
/-! ### sizes -/
mutual
def szD : PyData → Nat
  | .tuple ds => 1 + szL ds
  | .str x => 1 + x.length
  | .none => 1
  | .bool _ => 1
  | .int _ => 1
  | .list _ => 1
  | .dict _ => 1
def szL : List PyData → Nat
  | [] => 0
  | d :: ds => szD d + szL ds
end
theorem szD_pos (d : PyData) : 1 ≤ szD d := by
  cases d <;> simp [szD] <;> omega
theorem szL_app : ∀ (xs ys : List PyData), szL (xs ++ ys) = szL xs + szL ys
  | [], ys => by simp [szL]
  | x :: xs, ys => by
    rw [List.cons_append, szL, szL, szL_app xs ys]; omega
theorem szL_len : ∀ xs : List PyData, xs.length ≤ szL xs
  | [] => Nat.le_refl _
  | x :: xs => by
    have h1 := szL_len xs
    have h2 := szD_pos x
    rw [List.length_cons, szL]; omega
theorem szL_get : ∀ {xs : List PyData} {i : Nat} {d : PyData}, xs[i]? = some d → szD d ≤ szL xs
  | [], _, _, e => by simp at e
  | x :: xs, 0, d, e => by
    simp at e
    subst e
    rw [szL]; omega
  | x :: xs, i + 1, d, e => by
    have h := szL_get (xs := xs) (i := i) (d := d) (by simpa using e)
    rw [szL]; omega
theorem szL_td : ∀ (xs : List PyData) (i : Nat), szL (xs.take i) + szL (xs.drop i) = szL xs := fun xs i => by
  rw [← szL_app, List.take_append_drop]
theorem szL_rev : ∀ xs : List PyData, szL xs.reverse = szL xs
  | [] => rfl
  | x :: xs => by
    rw [List.reverse_cons, szL_app, szL_rev xs, szL, szL, szL]; omega
theorem szL_rep (d : PyData) : ∀ k : Nat, szL (List.replicate k d) = k * szD d
  | 0 => by simp [szL]
  | k + 1 => by
    rw [List.replicate_succ, szL, szL_rep d k, Nat.succ_mul]; omega
/-! ### words and worths, as both sides tell them -/
def letters : List Nat := (Str.ofString "abcdefghijklmnopqrstuvwxyz").cps.toList
def isWd (x : Str) : Bool := decide (1 ≤ x.length ∧ x.length ≤ 8) && x.cps.toList.all fun c => decide (c ∈ letters)
def leafW : PyData → Bool
  | .none => true
  | .int i => decide (-1000000000 ≤ i ∧ i ≤ 1000000000)
  | .str x => isWd x
  | _ => false
def isW : Nat → PyData → Bool
  | 0, .tuple _ => false
  | n + 1, .tuple ds => decide (ds.length ≤ 20) && ds.all (isW n)
  | _, d => leafW d
theorem isW_leaf {n : Nat} {d : PyData} (h : ∀ ds, d ≠ .tuple ds) : isW n d = leafW d := by
  cases n <;> cases d <;> first | rfl | exact absurd rfl (h _)
/-! ### texts -/
def leafT : PyData → Str
  | .none => "-"
  | .int i => toString i
  | .str x => x
  | _ => ""
def shW : Nat → PyData → Str
  | n + 1, .tuple ds => Txt.join " " ((("<" : Str) :: ds.map (shW n)) ++ [(">" : Str)])
  | _, d => leafT d
theorem shW_leaf {n : Nat} {d : PyData} (h : ∀ ds, d ≠ .tuple ds) : shW n d = leafT d := by
  cases n <;> cases d <;> first | rfl | exact absurd rfl (h _)
/-! ### two unlike worths have unlike texts -/
open TL in
theorem joinL_app (S : List Nat) : ∀ {ps qs : List (List Nat)}, ps ≠ [] → qs ≠ [] → joinL S (ps ++ qs) = joinL S ps ++ (S ++ joinL S qs)
  | [], _, h, _ => absurd rfl h
  | [p], [], _, h => absurd rfl h
  | [p], q :: r, _, _ => rfl
  | p :: p2 :: ps, qs, _, h => by
    show p ++ (S ++ joinL S ((p2 :: ps) ++ qs)) = (p ++ (S ++ joinL S (p2 :: ps))) ++ (S ++ joinL S qs)
    rw [joinL_app S (by simp) h]
    simp [List.append_assoc]
open TL in
theorem joinL_flat (S : List Nat) : ∀ {pss : List (List (List Nat))}, (∀ ps ∈ pss, ps ≠ []) → joinL S (pss.map (joinL S)) = joinL S pss.flatten
  | [], _ => rfl
  | [ps], _ => by simp [joinL]
  | ps :: qs :: r, h => by
    have h1 : ps ≠ [] := h ps (List.mem_cons_self ..)
    have h2 : qs ≠ [] := h qs (by simp)
    have h3 : (qs :: r).flatten ≠ [] := by
      rw [List.flatten_cons]
      intro z
      exact h2 (List.append_eq_nil_iff.mp z).1
    show joinL S ps ++ (S ++ joinL S ((qs :: r).map (joinL S))) = joinL S (ps :: qs :: r).flatten
    rw [joinL_flat S (fun z hz => h z (List.mem_cons_of_mem _ hz)), show (ps :: qs :: r).flatten = ps ++ (qs :: r).flatten from rfl, joinL_app S h1 h3]
def tkL : Nat → PyData → List (List Nat)
  | n + 1, .tuple ds => [60] :: ((ds.map (tkL n)).flatten ++ [[62]])
  | _, d => [TL.tl (leafT d)]
theorem tkL_leaf {n : Nat} {d : PyData} (h : ∀ ds, d ≠ .tuple ds) : tkL n d = [TL.tl (leafT d)] := by
  cases n <;> cases d <;> first | rfl | exact absurd rfl (h _)
theorem tkL_ne (n : Nat) (d : PyData) : tkL n d ≠ [] := by
  cases n <;> cases d <;> simp [tkL]
theorem tl_shW : ∀ (n : Nat) (d : PyData), TL.tl (shW n d) = TL.joinL [32] (tkL n d)
  | 0, d => by cases d <;> rfl
  | n + 1, .tuple ds => by
    show TL.tl (Txt.join " " ((("<" : Str) :: ds.map (shW n)) ++ [(">" : Str)])) = TL.joinL [32] ([60] :: ((ds.map (tkL n)).flatten ++ [[62]]))
    rw [TL.join_eq, TL.tl_join, show TL.tl " " = [32] by decide +kernel]
    have e1 : ((("<" : Str) :: ds.map (shW n)) ++ [(">" : Str)]).map TL.tl = ([[[60]]] ++ ds.map (tkL n) ++ [[[62]]]).map (TL.joinL [32]) := by
      rw [List.map_append, List.map_cons, List.map_map, List.map_append, List.map_append, List.map_map]
      have e2 : ds.map (TL.tl ∘ shW n) = ds.map (TL.joinL [32] ∘ tkL n) := List.map_congr_left fun d _ => tl_shW n d
      rw [e2, show TL.tl ("<" : Str) = [60] by decide +kernel, show [(">" : Str)].map TL.tl = [[62]] by decide +kernel]
      rfl
    rw [e1, joinL_flat [32] (fun ps hp => ?_)]
    · simp [List.flatten_append]
    · rcases List.mem_append.mp hp with hp | hp
      · rcases List.mem_append.mp hp with hp | hp
        · rw [List.mem_singleton.mp hp]; simp
        · obtain ⟨d, _, rfl⟩ := List.mem_map.mp hp
          exact tkL_ne n d
      · rw [List.mem_singleton.mp hp]; simp
  | n + 1, .none => rfl
  | n + 1, .bool _ => rfl
  | n + 1, .int _ => rfl
  | n + 1, .str _ => rfl
  | n + 1, .list _ => rfl
  | n + 1, .dict _ => rfl
theorem ofS_app (a b : String) : Str.ofString (a ++ b) = Str.ofString a ++ Str.ofString b := by
  apply TL.ext_tl
  rw [TL.tl_append]
  simp [TL.tl, Str.ofString_eq_toList]
theorem tl_int (i : Int) : TL.tl (leafT (.int i)) = if i < 0 then 45 :: TL.numL i.natAbs else TL.numL i.natAbs := by
  show TL.tl (Str.ofString (toString i)) = _
  cases i with
  | ofNat m =>
    rw [if_neg (by simp)]
    exact TL.tl_num m
  | negSucc m =>
    rw [if_pos (Int.negSucc_lt_zero m)]
    have h : toString (Int.negSucc m) = "-" ++ toString ((m + 1 : Nat) : Int) := rfl
    rw [h, ofS_app, TL.tl_append, TL.tl_num]
    rfl
theorem letters_lo : ∀ c ∈ letters, 97 ≤ c ∧ c ≤ 122 := by decide +kernel
theorem isWd_let {x : Str} (h : isWd x = true) : (∀ c ∈ TL.tl x, 97 ≤ c ∧ c ≤ 122) ∧ TL.tl x ≠ [] ∧ x.length ≤ 8 := by
  unfold isWd at h
  rw [Bool.and_eq_true, decide_eq_true_eq, List.all_eq_true] at h
  obtain ⟨⟨h1, h2⟩, h3⟩ := h
  refine ⟨fun c hc => letters_lo c (of_decide_eq_true (h3 c hc)), fun z => ?_, h2⟩
  rw [TL.len_tl, z] at h1
  exact absurd h1 (by decide)
/-- the sign of a leaf that is no tuple: its kind is seen at its first code -/
theorem leaf_inj {d e : PyData} (hd : leafW d = true) (he : leafW e = true) (h : TL.tl (leafT d) = TL.tl (leafT e)) : d = e := by
  have digs : ∀ (i : Int) (c : Nat), c ∈ TL.tl (leafT (.int i)) → c = 45 ∨ (48 ≤ c ∧ c ≤ 57) := by
    intro i c hc
    rw [tl_int] at hc
    have dg := TL.numL_digits i.natAbs
    split at hc
    · rcases List.mem_cons.mp hc with z | z
      · exact .inl z
      · exact .inr (dg c z)
    · exact .inr (dg c hc)
  have int_ne : ∀ i : Int, TL.tl (leafT (.int i)) ≠ [] ∧ TL.tl (leafT (.int i)) ≠ [45] := by
    intro i
    rw [tl_int]
    have n0 := TL.numL_ne i.natAbs
    split
    · refine ⟨by simp, fun z => n0 ?_⟩
      exact (List.cons.inj z).2
    · refine ⟨n0, fun z => ?_⟩
      have := TL.numL_digits i.natAbs 45 (by rw [z]; simp)
      omega
  have none_t : TL.tl (leafT .none) = [45] := by decide +kernel
  cases d with
  | none =>
    cases e with
    | none => rfl
    | int i => exact absurd (h.symm.trans none_t) (int_ne i).2
    | str x =>
      have hx := (isWd_let he).1
      have : (45 : Nat) ∈ TL.tl x := by
        rw [show TL.tl x = [45] from h.symm.trans none_t]; simp
      exact absurd (hx 45 this).1 (by decide)
    | bool b => exact absurd (show false = true from he) Bool.false_ne_true
    | list l => exact absurd (show false = true from he) Bool.false_ne_true
    | tuple l => exact absurd (show false = true from he) Bool.false_ne_true
    | dict l => exact absurd (show false = true from he) Bool.false_ne_true
  | int i =>
    cases e with
    | none => exact absurd (h.trans none_t) (int_ne i).2
    | int j =>
      rw [tl_int, tl_int] at h
      have ni := TL.numL_digits i.natAbs
      have nj := TL.numL_digits j.natAbs
      by_cases hi : i < 0 <;> by_cases hj : j < 0
      · rw [if_pos hi, if_pos hj] at h
        have := TL.numL_inj (List.cons.inj h).2
        have e : i = j := by omega
        rw [e]
      · rw [if_pos hi, if_neg hj] at h
        have := nj 45 (by rw [← h]; simp)
        omega
      · rw [if_neg hi, if_pos hj] at h
        have := ni 45 (by rw [h]; simp)
        omega
      · rw [if_neg hi, if_neg hj] at h
        have := TL.numL_inj h
        have e : i = j := by omega
        rw [e]
    | str x =>
      have hx := (isWd_let he).1
      have hn := (isWd_let he).2.1
      obtain ⟨c, r, hc⟩ := List.exists_cons_of_ne_nil hn
      have m1 : c ∈ TL.tl x := by rw [hc]; simp
      have m2 : c ∈ TL.tl (leafT (.int i)) := by
        rw [h]; exact m1
      have := hx c m1
      have := digs i c m2
      omega
    | bool b => exact absurd (show false = true from he) Bool.false_ne_true
    | list l => exact absurd (show false = true from he) Bool.false_ne_true
    | tuple l => exact absurd (show false = true from he) Bool.false_ne_true
    | dict l => exact absurd (show false = true from he) Bool.false_ne_true
  | str x =>
    have hx := (isWd_let hd).1
    have hn := (isWd_let hd).2.1
    obtain ⟨c, r, hc⟩ := List.exists_cons_of_ne_nil hn
    have m1 : c ∈ TL.tl x := by rw [hc]; simp
    cases e with
    | none =>
      have : (45 : Nat) ∈ TL.tl x := by
        rw [show TL.tl x = [45] from h.trans none_t]; simp
      exact absurd (hx 45 this).1 (by decide)
    | int j =>
      have m2 : c ∈ TL.tl (leafT (.int j)) := by
        rw [← h]; exact m1
      have := hx c m1
      have := digs j c m2
      omega
    | str y => rw [TL.ext_tl (show TL.tl x = TL.tl y from h)]
    | bool b => exact absurd (show false = true from he) Bool.false_ne_true
    | list l => exact absurd (show false = true from he) Bool.false_ne_true
    | tuple l => exact absurd (show false = true from he) Bool.false_ne_true
    | dict l => exact absurd (show false = true from he) Bool.false_ne_true
  | bool b => exact absurd (show false = true from hd) Bool.false_ne_true
  | list l => exact absurd (show false = true from hd) Bool.false_ne_true
  | tuple l => exact absurd (show false = true from hd) Bool.false_ne_true
  | dict l => exact absurd (show false = true from hd) Bool.false_ne_true
/-- no leaf's sign is a bracket, none has a blank -/
theorem leaf_no {d : PyData} (hd : leafW d = true) : TL.tl (leafT d) ≠ [60] ∧ TL.tl (leafT d) ≠ [62] ∧ (32 : Nat) ∉ TL.tl (leafT d) := by
  have key : ∀ c ∈ TL.tl (leafT d), c = 45 ∨ (48 ≤ c ∧ c ≤ 57) ∨ (97 ≤ c ∧ c ≤ 122) := by
    cases d with
    | none =>
      intro c hc
      have : TL.tl (leafT .none) = [45] := by decide +kernel
      rw [this] at hc
      exact .inl (List.mem_singleton.mp hc)
    | int i =>
      intro c hc
      rw [tl_int] at hc
      have dg := TL.numL_digits i.natAbs
      split at hc
      · rcases List.mem_cons.mp hc with z | z
        · exact .inl z
        · exact .inr (.inl (dg c z))
      · exact .inr (.inl (dg c hc))
    | str x =>
      intro c hc
      exact .inr (.inr ((isWd_let hd).1 c hc))
    | bool b => exact absurd (show false = true from hd) Bool.false_ne_true
    | list l => exact absurd (show false = true from hd) Bool.false_ne_true
    | tuple l => exact absurd (show false = true from hd) Bool.false_ne_true
    | dict l => exact absurd (show false = true from hd) Bool.false_ne_true
  refine ⟨fun z => ?_, fun z => ?_, fun z => ?_⟩
  · have := key 60 (by rw [z]; simp)
    omega
  · have := key 62 (by rw [z]; simp)
    omega
  · have := key 32 z
    omega
theorem isW_tup {n : Nat} {ds : List PyData} (h : isW n (.tuple ds) = true) : ∃ m, n = m + 1 ∧ ds.length ≤ 20 ∧ ∀ d ∈ ds, isW m d = true := by
  cases n with
  | zero => exact absurd h (by simp [isW])
  | succ m =>
    rw [isW, Bool.and_eq_true, decide_eq_true_eq, List.all_eq_true] at h
    exact ⟨m, rfl, h.1, h.2⟩
theorem notTup {d : PyData} : (∃ ds, d = .tuple ds) ∨ ∀ ds, d ≠ .tuple ds := by
  cases d with
  | tuple ds => exact .inl ⟨ds, rfl⟩
  | _ => exact .inr fun ds z => by cases z
theorem tk_pre : ∀ (n : Nat) {d e : PyData} {r r' : List (List Nat)}, isW n d = true → isW n e = true → tkL n d ++ r = tkL n e ++ r' → d = e ∧ r = r' := by
  intro n
  induction n with
  | zero =>
    intro d e r r' hd he h
    have nd : ∀ ds, d ≠ .tuple ds := fun ds z => by rw [z] at hd; exact absurd hd (by simp [isW])
    have ne : ∀ ds, e ≠ .tuple ds := fun ds z => by rw [z] at he; exact absurd he (by simp [isW])
    rw [isW_leaf nd] at hd
    rw [isW_leaf ne] at he
    rw [tkL_leaf nd, tkL_leaf ne] at h
    obtain ⟨h1, h2⟩ := List.cons.inj h
    exact ⟨leaf_inj hd he h1, h2⟩
  | succ n ih =>
    have lists : ∀ (ds es : List PyData) (r r' : List (List Nat)), (∀ d ∈ ds, isW n d = true) → (∀ e ∈ es, isW n e = true) → (ds.map (tkL n)).flatten ++ ([62] :: r) = (es.map (tkL n)).flatten ++ ([62] :: r') → ds = es ∧ r = r' := by
      have first : ∀ (d : PyData) (q : List (List Nat)) (t : List (List Nat)), isW n d = true → [62] :: t = tkL n d ++ q → False := by
        intro d q t hd h
        rcases @notTup d with ⟨ds, rfl⟩ | nd
        · obtain ⟨m, rfl, _, _⟩ := isW_tup hd
          rw [tkL] at h
          exact absurd (List.cons.inj h).1 (by decide)
        · rw [tkL_leaf nd] at h
          rw [isW_leaf nd] at hd
          exact (leaf_no hd).2.1 (List.cons.inj h).1.symm
      intro ds
      induction ds with
      | nil =>
        intro es r r' _ he h
        cases es with
        | nil => exact ⟨rfl, (List.cons.inj h).2⟩
        | cons e es =>
          rw [List.map_cons, List.flatten_cons, List.append_assoc] at h
          exact (first e _ _ (he e (List.mem_cons_self ..)) h).elim
      | cons d ds ihl =>
        intro es r r' hd he h
        cases es with
        | nil =>
          rw [List.map_cons, List.flatten_cons, List.append_assoc] at h
          exact (first d _ _ (hd d (List.mem_cons_self ..)) h.symm).elim
        | cons e es =>
          rw [List.map_cons, List.flatten_cons, List.append_assoc, List.map_cons, List.flatten_cons, List.append_assoc] at h
          obtain ⟨h1, h2⟩ := ih (hd d (List.mem_cons_self ..)) (he e (List.mem_cons_self ..)) h
          obtain ⟨h3, h4⟩ := ihl es r r' (fun z hz => hd z (List.mem_cons_of_mem _ hz)) (fun z hz => he z (List.mem_cons_of_mem _ hz)) h2
          exact ⟨by rw [h1, h3], h4⟩
    intro d e r r' hd he h
    rcases @notTup d with ⟨ds, rfl⟩ | nd
    · obtain ⟨m, em, _, kd⟩ := isW_tup hd
      cases em
      rcases @notTup e with ⟨es, rfl⟩ | ne
      · obtain ⟨m2, em2, _, ke⟩ := isW_tup he
        cases em2
        rw [tkL, tkL, List.cons_append, List.cons_append, List.append_assoc, List.append_assoc] at h
        obtain ⟨h1, h2⟩ := lists ds es r r' kd ke (List.cons.inj h).2
        exact ⟨by rw [h1], h2⟩
      · rw [tkL_leaf ne, tkL] at h
        rw [isW_leaf ne] at he
        exact ((leaf_no he).1 (List.cons.inj h).1.symm).elim
    · rcases @notTup e with ⟨es, rfl⟩ | ne
      · rw [tkL_leaf nd, tkL] at h
        rw [isW_leaf nd] at hd
        exact ((leaf_no hd).1 (List.cons.inj h).1).elim
      · rw [isW_leaf nd] at hd
        rw [isW_leaf ne] at he
        rw [tkL_leaf nd, tkL_leaf ne] at h
        obtain ⟨h1, h2⟩ := List.cons.inj h
        exact ⟨leaf_inj hd he h1, h2⟩
theorem tk_free : ∀ (n : Nat) {d : PyData}, isW n d = true → ∀ t ∈ tkL n d, (32 : Nat) ∉ t := by
  intro n
  induction n with
  | zero =>
    intro d hd t ht
    have nd : ∀ ds, d ≠ .tuple ds := fun ds z => by rw [z] at hd; exact absurd hd (by simp [isW])
    rw [isW_leaf nd] at hd
    rw [tkL_leaf nd] at ht
    rw [List.mem_singleton.mp ht]
    exact (leaf_no hd).2.2
  | succ n ih =>
    intro d hd t ht
    rcases @notTup d with ⟨ds, rfl⟩ | nd
    · obtain ⟨m, em, _, kd⟩ := isW_tup hd
      cases em
      rw [tkL] at ht
      rcases List.mem_cons.mp ht with z | z
      · rw [z]; decide
      · rcases List.mem_append.mp z with z | z
        · obtain ⟨l, hl, htl⟩ := List.mem_flatten.mp z
          obtain ⟨e, hee, rfl⟩ := List.mem_map.mp hl
          exact ih (kd e hee) t htl
        · rw [List.mem_singleton.mp z]; decide
    · rw [isW_leaf nd] at hd
      rw [tkL_leaf nd] at ht
      rw [List.mem_singleton.mp ht]
      exact (leaf_no hd).2.2
theorem shW_inj {n : Nat} {d e : PyData} (hd : isW n d = true) (he : isW n e = true) (h : shW n d = shW n e) : d = e := by
  have h1 : TL.joinL [32] (tkL n d) = TL.joinL [32] (tkL n e) := by
    rw [← tl_shW, ← tl_shW, h]
  have h2 := congrArg (TL.spl [32] 0 []) h1
  rw [TL.spl_join (tkL_ne n d) (tk_free n hd), TL.spl_join (tkL_ne n e) (tk_free n he)] at h2
  exact (tk_pre n (r := []) (r' := []) hd he (by rw [h2])).1
end My

set_option Elab.async false
set_option linter.all false
set_option maxRecDepth 100000
set_option maxHeartbeats 4000000
namespace My
open PySem L2
/-! ### how long a worth's text is, and its signs -/
def sumL : List (List Nat) → Nat
  | [] => 0
  | p :: ps => (p.length + 1) + sumL ps
theorem sumL_app : ∀ ps qs : List (List Nat), sumL (ps ++ qs) = sumL ps + sumL qs
  | [], qs => by simp [sumL]
  | p :: ps, qs => by
    rw [List.cons_append, sumL, sumL, sumL_app ps qs]; omega
theorem joinL_len : ∀ {ps : List (List Nat)}, ps ≠ [] → (TL.joinL [32] ps).length + 1 = sumL ps
  | [], h => absurd rfl h
  | [p], _ => by simp [TL.joinL, sumL]
  | p :: q :: r, _ => by
    have h := joinL_len (ps := q :: r) (by simp)
    show (p ++ ([32] ++ TL.joinL [32] (q :: r))).length + 1 = (p.length + 1) + sumL (q :: r)
    rw [List.length_append, List.length_append, ← h]
    simp only [List.length_cons, List.length_nil]
    omega
theorem joinL_mem {c : Nat} : ∀ {ps : List (List Nat)}, c ∈ TL.joinL [32] ps → c = 32 ∨ ∃ t ∈ ps, c ∈ t
  | [], h => by simp [TL.joinL] at h
  | [p], h => .inr ⟨p, by simp, h⟩
  | p :: q :: r, h => by
    rcases List.mem_append.mp (show c ∈ p ++ ([32] ++ TL.joinL [32] (q :: r)) from h) with z | z
    · exact .inr ⟨p, by simp, z⟩
    · rcases List.mem_append.mp z with z | z
      · exact .inl (List.mem_singleton.mp z)
      · rcases joinL_mem z with z | ⟨t, ht, hc⟩
        · exact .inl z
        · exact .inr ⟨t, List.mem_cons_of_mem _ ht, hc⟩
theorem leaf_len {d : PyData} (hd : leafW d = true) : (TL.tl (leafT d)).length + 1 ≤ 12 * szD d := by
  cases d with
  | none => decide +kernel
  | int i =>
    have h : -1000000000 ≤ i ∧ i ≤ 1000000000 := of_decide_eq_true hd
    rw [tl_int]
    have hn : (TL.numL i.natAbs).length ≤ 10 := TL.numL_len (by decide) (show i.natAbs < 10 ^ 10 by omega)
    split
    · rw [List.length_cons, szD]; omega
    · rw [szD]; omega
  | str x =>
    show (TL.tl x).length + 1 ≤ 12 * szD (.str x)
    rw [szD, TL.len_tl]; omega
  | bool b => exact absurd (show false = true from hd) Bool.false_ne_true
  | list l => exact absurd (show false = true from hd) Bool.false_ne_true
  | tuple l => exact absurd (show false = true from hd) Bool.false_ne_true
  | dict l => exact absurd (show false = true from hd) Bool.false_ne_true
theorem leaf_sign {d : PyData} (hd : leafW d = true) : ∀ c ∈ TL.tl (leafT d), c ≤ 122 := by
  cases d with
  | none =>
    intro c hc
    rw [show TL.tl (leafT .none) = [45] by decide +kernel] at hc
    rw [List.mem_singleton.mp hc]; decide
  | int i =>
    intro c hc
    rw [tl_int] at hc
    have dg := TL.numL_digits i.natAbs
    split at hc
    · rcases List.mem_cons.mp hc with z | z
      · omega
      · have := dg c z; omega
    · have := dg c hc; omega
  | str x => exact fun c hc => ((isWd_let hd).1 c hc).2
  | bool b => exact absurd (show false = true from hd) Bool.false_ne_true
  | list l => exact absurd (show false = true from hd) Bool.false_ne_true
  | tuple l => exact absurd (show false = true from hd) Bool.false_ne_true
  | dict l => exact absurd (show false = true from hd) Bool.false_ne_true
theorem tk_sum : ∀ (n : Nat) {d : PyData}, isW n d = true → sumL (tkL n d) ≤ 12 * szD d ∧ ∀ t ∈ tkL n d, ∀ c ∈ t, c ≤ 122 := by
  intro n
  induction n with
  | zero =>
    intro d hd
    have nd : ∀ ds, d ≠ .tuple ds := fun ds z => by rw [z] at hd; exact absurd hd (by simp [isW])
    rw [isW_leaf nd] at hd
    rw [tkL_leaf nd]
    refine ⟨by simp only [sumL]; have := leaf_len hd; omega, fun t ht => ?_⟩
    rw [List.mem_singleton.mp ht]
    exact leaf_sign hd
  | succ n ih =>
    intro d hd
    rcases @notTup d with ⟨ds, rfl⟩ | nd
    · obtain ⟨m, em, _, kd⟩ := isW_tup hd
      cases em
      have key : ∀ ds : List PyData, (∀ d ∈ ds, isW n d = true) → sumL (ds.map (tkL n)).flatten ≤ 12 * szL ds ∧ ∀ t ∈ (ds.map (tkL n)).flatten, ∀ c ∈ t, c ≤ 122 := by
        intro ds
        induction ds with
        | nil => exact fun _ => ⟨by simp [sumL], fun t ht => by simp at ht⟩
        | cons e es ihl =>
          intro h
          obtain ⟨h1, h2⟩ := ih (h e (List.mem_cons_self ..))
          obtain ⟨h3, h4⟩ := ihl fun z hz => h z (List.mem_cons_of_mem _ hz)
          rw [List.map_cons, List.flatten_cons]
          refine ⟨?_, fun t ht => ?_⟩
          · rw [sumL_app, szL]; omega
          · rcases List.mem_append.mp ht with z | z
            · exact h2 t z
            · exact h4 t z
      obtain ⟨h1, h2⟩ := key ds kd
      rw [tkL]
      refine ⟨?_, fun t ht => ?_⟩
      · rw [sumL, sumL_app, szD]
        simp only [sumL, List.length_cons, List.length_nil]
        omega
      · rcases List.mem_cons.mp ht with z | z
        · rw [z]; intro c hc; rw [List.mem_singleton.mp hc]; decide
        · rcases List.mem_append.mp z with z | z
          · exact h2 t z
          · rw [List.mem_singleton.mp z]; intro c hc; rw [List.mem_singleton.mp hc]; decide
    · rw [isW_leaf nd] at hd
      rw [tkL_leaf nd]
      refine ⟨by simp only [sumL]; have := leaf_len hd; omega, fun t ht => ?_⟩
      rw [List.mem_singleton.mp ht]
      exact leaf_sign hd
theorem shW_len {n : Nat} {d : PyData} (hd : isW n d = true) : (shW n d).length + 1 ≤ 12 * szD d := by
  rw [TL.len_tl, tl_shW, joinL_len (tkL_ne n d)]
  exact (tk_sum n hd).1
theorem shW_sign {n : Nat} {d : PyData} (hd : isW n d = true) : ∀ c ∈ TL.tl (shW n d), c ≤ 122 := by
  intro c hc
  rw [tl_shW] at hc
  rcases joinL_mem hc with z | ⟨t, ht, h⟩
  · omega
  · exact (tk_sum n hd).2 t ht c h
theorem shW_repr {n : Nat} {d : PyData} (hd : isW n d = true) (hs : szD d ≤ 40000) : (reprText (shW n d)).length ≤ sizeLine := by
  have h1 := StrLaws.reprText_len (shW n d) fun c hc => Nat.lt_of_le_of_lt (shW_sign hd c hc) (by decide)
  have h2 := shW_len hd
  rw [sizeLine_eq]
  omega
/-! ### worths that are alike -/
theorem eqv_w : ∀ (n : Nat) {d e : PyData}, isW n d = true → isW n e = true → (PyData.eqv d e = true ↔ d = e) := by
  have leaf : ∀ {d e : PyData}, leafW d = true → leafW e = true → (PyData.eqv d e = true ↔ d = e) := by
    intro d e hd he
    cases d <;> cases e <;> first | exact absurd (show false = true from hd) Bool.false_ne_true | exact absurd (show false = true from he) Bool.false_ne_true | simp [PyData.eqv]
  have mixed : ∀ {d : PyData} {ds : List PyData}, leafW d = true → ¬ (PyData.eqv d (.tuple ds) = true) ∧ ¬ (PyData.eqv (.tuple ds) d = true) := by
    intro d ds hd
    cases d <;> first | exact absurd (show false = true from hd) Bool.false_ne_true | simp [PyData.eqv]
  intro n
  induction n with
  | zero =>
    intro d e hd he
    have nd : ∀ ds, d ≠ .tuple ds := fun ds z => by rw [z] at hd; exact absurd hd (by simp [isW])
    have ne : ∀ ds, e ≠ .tuple ds := fun ds z => by rw [z] at he; exact absurd he (by simp [isW])
    rw [isW_leaf nd] at hd
    rw [isW_leaf ne] at he
    exact leaf hd he
  | succ n ih =>
    have lists : ∀ ds es : List PyData, (∀ d ∈ ds, isW n d = true) → (∀ e ∈ es, isW n e = true) → (PyData.eqvAll ds es = true ↔ ds = es) := by
      intro ds
      induction ds with
      | nil => intro es _ _; cases es <;> simp [PyData.eqvAll]
      | cons d ds ihl =>
        intro es hd he
        cases es with
        | nil => simp [PyData.eqvAll]
        | cons e es =>
          rw [PyData.eqvAll, Bool.and_eq_true, ih (hd d (List.mem_cons_self ..)) (he e (List.mem_cons_self ..)), ihl es (fun z hz => hd z (List.mem_cons_of_mem _ hz)) (fun z hz => he z (List.mem_cons_of_mem _ hz))]
          constructor
          · rintro ⟨rfl, rfl⟩; rfl
          · intro h; exact ⟨(List.cons.inj h).1, (List.cons.inj h).2⟩
    intro d e hd he
    rcases @notTup d with ⟨ds, rfl⟩ | nd
    · obtain ⟨m, em, _, kd⟩ := isW_tup hd
      cases em
      rcases @notTup e with ⟨es, rfl⟩ | ne
      · obtain ⟨m2, em2, _, ke⟩ := isW_tup he
        cases em2
        rw [PyData.eqv, lists ds es kd ke]
        constructor
        · rintro rfl; rfl
        · intro h; exact PyData.tuple.inj h
      · rw [isW_leaf ne] at he
        exact ⟨fun z => ((mixed he).2 z).elim, fun z => (ne ds z.symm).elim⟩
    · rcases @notTup e with ⟨es, rfl⟩ | ne
      · rw [isW_leaf nd] at hd
        exact ⟨fun z => ((mixed hd).1 z).elim, fun z => (nd es z).elim⟩
      · rw [isW_leaf nd] at hd
        rw [isW_leaf ne] at he
        exact leaf hd he
theorem lay_w : ∀ (n : Nat) {d : PyData}, isW n d = true → d.canLay0 = true ∧ d.depth ≤ n := by
  have leaf : ∀ {d : PyData}, leafW d = true → d.canLay0 = true ∧ d.depth = 0 := by
    intro d hd
    cases d with
    | none => exact ⟨rfl, by simp [PyData.depth]⟩
    | int i => exact ⟨rfl, by simp [PyData.depth]⟩
    | str x =>
      refine ⟨?_, by simp [PyData.depth]⟩
      show PyData.strOk x = true
      unfold PyData.strOk
      rw [Array.all_eq_true']
      intro c hc
      have := (isWd_let hd).1 c (Array.mem_toList_iff.mpr hc)
      exact decide_eq_true (by omega)
    | bool b => exact absurd (show false = true from hd) Bool.false_ne_true
    | list l => exact absurd (show false = true from hd) Bool.false_ne_true
    | tuple l => exact absurd (show false = true from hd) Bool.false_ne_true
    | dict l => exact absurd (show false = true from hd) Bool.false_ne_true
  intro n
  induction n with
  | zero =>
    intro d hd
    have nd : ∀ ds, d ≠ .tuple ds := fun ds z => by rw [z] at hd; exact absurd hd (by simp [isW])
    rw [isW_leaf nd] at hd
    exact ⟨(leaf hd).1, Nat.le_of_eq (leaf hd).2⟩
  | succ n ih =>
    intro d hd
    rcases @notTup d with ⟨ds, rfl⟩ | nd
    · obtain ⟨m, em, _, kd⟩ := isW_tup hd
      cases em
      have key : ∀ ds : List PyData, (∀ d ∈ ds, isW n d = true) → PyData.canLayAll0 ds = true ∧ PyData.depthAll ds ≤ n := by
        intro ds
        induction ds with
        | nil => exact fun _ => ⟨rfl, by simp [PyData.depthAll]⟩
        | cons e es ihl =>
          intro h
          obtain ⟨h1, h2⟩ := ih (h e (List.mem_cons_self ..))
          obtain ⟨h3, h4⟩ := ihl fun z hz => h z (List.mem_cons_of_mem _ hz)
          refine ⟨by rw [PyData.canLayAll0, h1, h3]; rfl, ?_⟩
          rw [PyData.depthAll]; omega
      obtain ⟨h1, h2⟩ := key ds kd
      exact ⟨by rw [PyData.canLay0]; exact h1, by rw [PyData.depth]; omega⟩
    · rw [isW_leaf nd] at hd
      exact ⟨(leaf hd).1, by rw [(leaf hd).2]; omega⟩
theorem shaped_w {n : Nat} {d : PyData} (h : isW n d = true) (hn : n ≤ 60) : SeqAt.shaped d = true := by
  unfold SeqAt.shaped
  rw [(lay_w n h).1, Bool.true_and]
  exact decide_eq_true (by have := (lay_w n h).2; omega)
theorem dp_w {K : PySem.W.Frag} {H : Hp} : ∀ (n : Nat) {m : Nat} {v : V} {d : PyData}, isW n d = true → Rep H m v d → Dp K H v d := by
  have leaf : ∀ {T : V → List PyData → Prop} {v : V} {d : PyData}, leafW d = true → base H T v d → Dp K H v d := by
    intro T v d hd h
    cases d with
    | none => rw [show v = .non from h]; exact .non
    | int i => rw [show v = .int i from h]; exact .int i
    | str x => rw [show v = .str x from h]; exact .str x
    | bool b => exact absurd (show false = true from hd) Bool.false_ne_true
    | list l => exact absurd (show false = true from hd) Bool.false_ne_true
    | tuple l => exact absurd (show false = true from hd) Bool.false_ne_true
    | dict l => exact absurd (show false = true from hd) Bool.false_ne_true
  have leafR : ∀ {m : Nat} {v : V} {d : PyData}, leafW d = true → Rep H m v d → Dp K H v d := by
    intro m v d hd h
    cases m with
    | zero => exact leaf hd h
    | succ m => exact leaf hd h
  intro n
  induction n with
  | zero =>
    intro m v d hd h
    have nd : ∀ ds, d ≠ .tuple ds := fun ds z => by rw [z] at hd; exact absurd hd (by simp [isW])
    rw [isW_leaf nd] at hd
    exact leafR hd h
  | succ n ih =>
    intro m v d hd h
    rcases @notTup d with ⟨ds, rfl⟩ | nd
    · obtain ⟨k, ek, h20, kd⟩ := isW_tup hd
      cases ek
      cases m with
      | zero => exact (show False from h).elim
      | succ m =>
        obtain ⟨a, xs, rfl, ha, hp⟩ := (show ∃ a xs, v = .ref a ∧ H a = some (.tup xs) ∧ Paired (Rep H m) xs ds from h)
        refine .tup (SqT.of ha) ?_
        clear ha h hd h20
        induction hp with
        | nil => exact .nil
        | cons h1 h2 ihp => exact .cons (ih (kd _ (List.mem_cons_self ..)) h1) (ihp fun z hz => kd z (List.mem_cons_of_mem _ hz))
    · rw [isW_leaf nd] at hd
      exact leafR hd h
end My

set_option Elab.async false
set_option linter.all false
set_option maxRecDepth 100000
set_option maxHeartbeats 4000000
namespace My
open PySem L2
def top (i : Nat) : Stmt := PySem.Challenge.pw_rankloop_k62_what_is_a_script.main.body.getD i (.Pass ⟨0, 0, 0, 0⟩)
/-! ### the pen: what a law draws from -/
abbrev kC : Key := Sum.inr "cells"
abbrev kA : Key := Sum.inr "at"
abbrev kL : Key := Sum.inr "left"
def pen (l : Addr) (n L : Int) : List (Key × V) := [(kC, .ref l), (kA, .int n), (kL, .int L)]
theorem sCA : ¬ Str.ofString "cells" = Str.ofString "at" := by decide +kernel
theorem sCL : ¬ Str.ofString "cells" = Str.ofString "left" := by decide +kernel
theorem sAL : ¬ Str.ofString "at" = Str.ofString "left" := by decide +kernel
theorem sLA : ¬ Str.ofString "left" = Str.ofString "at" := by decide +kernel
theorem nCA : ¬ kC = kA := fun h => absurd (Sum.inr.inj h) (by decide +kernel)
theorem nCL : ¬ kC = kL := fun h => absurd (Sum.inr.inj h) (by decide +kernel)
theorem nAL : ¬ kA = kL := fun h => absurd (Sum.inr.inj h) (by decide +kernel)
theorem pen_c (l : Addr) (n L : Int) : valV (pen l n L) kC = some (.ref l) := valV_pos rfl
theorem pen_a (l : Addr) (n L : Int) : valV (pen l n L) kA = some (.int n) := (valV_neg nCA).trans (valV_pos rfl)
theorem pen_l (l : Addr) (n L : Int) : valV (pen l n L) kL = some (.int L) := (valV_neg nCL).trans ((valV_neg nAL).trans (valV_pos rfl))
theorem pen_putA (l : Addr) (n L m : Int) : putK (pen l n L) kA (.int m) = pen l m L := by
  simp [putK, pen, sCA, sLA]
theorem pen_putL (l : Addr) (n L m : Int) : putK (pen l n L) kL (.int m) = pen l n m := by
  simp [putK, pen, sCL, sAL]
theorem pen_len (l : Addr) (n L : Int) : (pen l n L).length < sizeLine := by
  show 3 < sizeLine
  decide
theorem pen_new (l : Addr) (n L : Int) : mergeK [] (pen l n L) = pen l n L := by
  have h1 : putK [] kC (.ref l) = [(kC, V.ref l)] := rfl
  have h2 : putK [(kC, V.ref l)] kA (.int n) = [(kC, V.ref l), (kA, V.int n)] := by simp [putK, sCA]
  have h3 : putK [(kC, V.ref l), (kA, V.int n)] kL (.int L) = pen l n L := by simp [putK, pen, sCL, sAL]
  show putK (putK (putK [] kC (.ref l)) kA (.int n)) kL (.int L) = _
  rw [h1, h2, h3]
/-- a pen stands at d, its cells at l -/
structure Pen (H : Hp) (d l : Addr) (ms : List Int) (n L : Int) : Prop where
  dc : H d = some (.dK (pen l n L))
  ls : H l = some (.lst (ms.map V.int))
  n0 : 0 ≤ n
  l0 : 0 ≤ L
theorem Pen.ne {H : Hp} {d l : Addr} {ms : List Int} {n L : Int} (p : Pen H d l ms n L) : l ≠ d := ne_of p.ls p.dc (by intro z; cases z)
theorem Pen.gC {H : Hp} {d l : Addr} {ms : List Int} {n L : Int} (p : Pen H d l ms n L) : DGet H d (.str "cells") (some (.ref l)) := by
  have h := DGet.k (k := kC) p.dc
  rw [pen_c] at h
  exact h
theorem Pen.gA {H : Hp} {d l : Addr} {ms : List Int} {n L : Int} (p : Pen H d l ms n L) : DGet H d (.str "at") (some (.int n)) := by
  have h := DGet.k (k := kA) p.dc
  rw [pen_a] at h
  exact h
theorem Pen.gL {H : Hp} {d l : Addr} {ms : List Int} {n L : Int} (p : Pen H d l ms n L) : DGet H d (.str "left") (some (.int L)) := by
  have h := DGet.k (k := kL) p.dc
  rw [pen_l] at h
  exact h
theorem Pen.pA {H : Hp} {d l : Addr} {ms : List Int} {n L : Int} (p : Pen H d l ms n L) (y : Int) : DPut H d (.str "at") (.int y) (L2.upd H d (.dK (pen l y L))) := by
  have h := DPut.k (k := kA) (v := .int y) p.dc (pen_len l n L)
  rw [pen_putA] at h
  exact h
theorem Pen.pL {H : Hp} {d l : Addr} {ms : List Int} {n L : Int} (p : Pen H d l ms n L) (y : Int) : DPut H d (.str "left") (.int y) (L2.upd H d (.dK (pen l n y))) := by
  have h := DPut.k (k := kL) (v := .int y) p.dc (pen_len l n L)
  rw [pen_putL] at h
  exact h
def spPen (K : PySem.W.Frag) : Sp := fun vs H Q _ => ∃ (a : Addr) (ns : List Int), vs = [.ref a] ∧ SqL K H a (ns.map V.int) ∧
  ∀ (d l : Addr) (ms : List Int) (H' : Hp), H d = none → H l = none → Same H H' → Pen H' d l ms 0 0 → Q (.ref d) H'
def spDraw : Sp := fun vs H Q _ => ∃ (d l : Addr) (ms : List Int) (n L m : Int), vs = [.ref d, .int m] ∧ Pen H d l ms n L ∧ n < 2 ^ 40 ∧ 0 < m ∧ m < 1073741824 ∧
  ∀ (r n' L' : Int) (H' : Hp), 0 ≤ r → r < m → n ≤ n' → n' ≤ n + 1 → Pen H' d l ms n' L' → (∀ c o, H c = some o → c ≠ d → H' c = some o) → Q (.int r) H'
theorem Pen.upd' {H : Hp} {d l : Addr} {ms : List Int} {n L n' L' : Int} (p : Pen H d l ms n L) (h1 : 0 ≤ n') (h2 : 0 ≤ L') : Pen (L2.upd H d (.dK (pen l n' L'))) d l ms n' L' :=
  ⟨upd_same, by rw [upd_ne p.ne]; exact p.ls, h1, h2⟩
theorem cut_ints (ns : List Int) (lo hi : Option Int) : ∃ ms : List Int, cutV (ns.map V.int) lo hi = ms.map V.int := by
  unfold cutV
  refine ⟨(ns.drop (HT.sIx (ns.map V.int).length 0 lo)).take (HT.sIx (ns.map V.int).length (ns.map V.int).length hi - HT.sIx (ns.map V.int).length 0 lo), ?_⟩
  rw [List.map_take, List.map_drop]
section
variable {P : Program} {w : World} {K : PySem.W.Frag} {mg : Str → Option Value} {base : Heap}
abbrev sPen : Stmt := top 26
abbrev sDraw : Stmt := top 27
theorem scPen : FnScope ["_law_script_here"] ["_law_script_here"] (defScope sPen) := ⟨rfl, rfl, rfl, by decide +kernel, rfl, by decide +kernel, by decide +kernel⟩
theorem ok_pen {f : Addr} {fd : FuncData} (F : Fun K "_law_pen" "_law_pen" sPen f fd) (mList : mg "list" = none) : FnOk P w K mg base CX0 1 f fd ["_law_script_here"] (spPen K) := by
  refine F.ok scPen (fun vs H Q E h => ?_) (fun cdv A outer s H vs Q E hr h => ?_)
  · obtain ⟨a, ns, rfl, _⟩ := h
    rfl
  · obtain ⟨a, ns, rfl, hS, k⟩ := h
    refine ⟨_, pss_one (ps_ret (pe_disp (pps_cons pe_str (pe_callTy call_list_of (by rfl) mList (by decide +kernel) (pa_cons (pe_slice sl_list (pv 0) po_none (po_some pe_int)) pa_nil))
      (pps_cons pe_str pe_int (pps_cons pe_str pe_int pps_nil))) (by rfl) (by rfl) (fun z => by cases z) (by decide))), ?_⟩
    intro d hd
    have s1 : Same H (upd H d (.dK [])) := fun b o e => by
      rw [upd_ne (ne_of_none e hd)]; exact e
    obtain ⟨ms, em⟩ := cut_ints ns none (some 63)
    refine ⟨_, rfl, 63, rfl, a, _, rfl, s1.seq hS, fun p hp => ⟨p, _, rfl, .inl (SqL.of upd_same), fun l hl => ?_⟩⟩
    have nlp : l ≠ p := fun z => by
      rw [z, upd_same] at hl
      cases hl
    have hl1 : upd H d (.dK []) l = none := by
      rw [upd_ne nlp] at hl; exact hl
    have nld : l ≠ d := fun z => by
      rw [z, upd_same] at hl1
      cases hl1
    have npd : p ≠ d := fun z => by
      rw [z, upd_same] at hp
      cases hp
    have hl0 : H l = none := by
      rw [upd_ne nld] at hl1; exact hl1
    have hp0 : H p = none := by
      rw [upd_ne npd] at hp; exact hp
    refine ⟨by rw [upd_ne (Ne.symm nld), upd_ne (Ne.symm npd), upd_same], pen l 0 0, rfl, by show 3 ≤ 15; decide, ?_⟩
    rw [pen_new]
    refine k d l ms _ hd hl0 (fun b o e => ?_) ⟨upd_same, ?_, Int.le_refl _, Int.le_refl _⟩
    · rw [upd_ne (ne_of_none e hd), upd_ne (ne_of_none e hl0), upd_ne (ne_of_none e hp0), upd_ne (ne_of_none e hd)]
      exact e
    · rw [upd_ne nld, upd_same]
      exact congrArg (fun z => some (HO.lst z)) em
theorem scDraw : FnScope ["_law_held", "_law_many_here", "_law_found", "_law_at", "_law_cell", "_law_number"] ["_law_held", "_law_many_here"] (defScope sDraw) := ⟨rfl, rfl, rfl, by decide +kernel, rfl, by decide +kernel, by decide +kernel⟩
theorem eq_nil (ms : List Int) : (!PyData.eqv (.list (ms.map PyData.int)) (.list [])) = !ms.isEmpty := by
  cases ms <;> simp [PyData.eqv, PyData.eqvAll]
theorem dp_ints {H : Hp} : ∀ ms : List Int, DpAll K H (ms.map V.int) (ms.map PyData.int)
  | [] => .nil
  | i :: r => .cons (.int i) (dp_ints r)
theorem shaped_ints (ms : List Int) : SeqAt.shaped (.list (ms.map PyData.int)) = true := by
  have h1 : ∀ ms : List Int, PyData.canLayAll0 (ms.map PyData.int) = true := by
    intro ms
    induction ms with
    | nil => rfl
    | cons a r ih => simp [PyData.canLayAll0, PyData.canLay0, ih]
  have h2 : ∀ ms : List Int, PyData.depthAll (ms.map PyData.int) ≤ 1 := by
    intro ms
    induction ms with
    | nil => simp [PyData.depthAll]
    | cons a r ih => simp [PyData.depthAll, PyData.depth]; omega
  unfold SeqAt.shaped
  have h3 := h2 ms
  simp [PyData.canLay0, PyData.depth, h1]
  omega
theorem ok_draw {f : Addr} {fd : FuncData} (F : Fun K "_law_draw" "_law_draw" sDraw f fd) (mLen : mg "len" = none) : FnOk P w K mg base CX0 1 f fd ["_law_held", "_law_many_here"] spDraw := by
  refine F.ok scDraw (fun vs H Q E h => ?_) (fun cdv A outer s H vs Q E hr h => ?_)
  · obtain ⟨d, l, ms, n, L, m, rfl, _⟩ := h
    rfl
  · obtain ⟨d, l, ms, n, L, m, rfl, p, hn, hm0, hm1, k⟩ := h
    have hu := hu_of hr
    have nd := scDraw.nd
    refine ⟨_, pss_cons (ps_if (pt_cmpR op_gt (pe_dget hu (pv 0) pe_str (fun _ _ => rfl)) pe_int (nomark _))
        (pss_cons (ps_set (i := 2) nd rfl (Or.inl rfl) (pe_op op_mod (pe_dget hu (pv 0) pe_str (fun _ _ => rfl)) (pv 1)))
        (pss_cons (ps_dput hu (pv 0) pe_str (pe_op op_fdiv (pe_dget hu (pv 0) pe_str (fun _ _ => rfl)) (pv 1)) rfl)
        (pss_one (ps_ret (pv 2))))) pss_nil)
      (pss_cons (ps_set (i := 3) nd rfl (Or.inl rfl) (pe_dget hu (pv 0) pe_str (fun _ _ => rfl)))
      (pss_cons (ps_dput hu (pv 0) pe_str (pe_op op_add (pv 3) pe_int) rfl)
      (pss_cons (ps_set (i := 4) nd rfl (Or.inl rfl) pe_int)
      (pss_cons (ps_if (pt_cmpR (op_neD hr.units) (pe_dget hu (pv 0) pe_str (fun _ _ => rfl)) (pe_lst pa_nil) (nomark _))
        (pss_one (ps_set (i := 4) nd rfl (Or.inl rfl) (pe_ix ix_list (pe_dget hu (pv 0) pe_str (fun _ _ => rfl)) (pe_op op_mod (pv 3) (pe_callB call_len_seq (by rfl) mLen PySem.boot_len (pa_cons (pe_dget hu (pv 0) pe_str (fun _ _ => rfl)) pa_nil))) (fun _ _ => rfl)))) pss_nil)
      (pss_cons (ps_if (PW.pt (pw_and (pt_cmpR op_lt (pv 3) (pe_callB call_len_seq (by rfl) mLen PySem.boot_len (pa_cons (pe_dget hu (pv 0) pe_str (fun _ _ => rfl)) pa_nil)) (nomark _))
          (pw_and1 (pt_cmpR op_ge (pv 4) (pe_op op_pow pe_int pe_int) (nomark _)))))
        (pss_cons (ps_dput hu (pv 0) pe_str (pe_op op_fdiv (pe_op op_sub (pv 4) (pe_op op_pow pe_int pe_int)) (pv 1)) rfl)
        (pss_one (ps_ret (pe_op op_mod (pe_op op_sub (pv 4) (pe_op op_pow pe_int pe_int)) (pv 1))))) pss_nil)
      (pss_cons (ps_set (i := 5) nd rfl (Or.inl rfl) (pe_op op_mod (pe_op op_add (pe_op op_add (pe_op op_add (pe_op op_mul (pe_op op_mod (pv 4) pe_int) pe_int) (pe_op op_mul (pe_op op_mul pe_int (pv 3)) (pv 3))) (pe_op op_mul pe_int (pv 3))) pe_int) pe_int))
      (pss_cons (ps_set (i := 5) nd rfl (Or.inl rfl) (pe_op op_mod (pe_op op_add (pe_op op_add (pe_op op_mul (pv 5) (pv 5)) (pe_op op_mul pe_int (pv 5))) pe_int) pe_int))
      (pss_one (ps_ret (pe_op op_mod (pe_op op_fdiv (pv 5) pe_int) (pv 1))))))))))), ?_⟩
    refine ⟨_, rfl, d, _, rfl, p.gL, _, _, rfl, rfl, _, rfl, ite2 (fun c => ?_) (fun c => ?_)⟩
    · refine ⟨_, rfl, d, _, rfl, p.gL, _, rfl, _, _, rfl, rfl, hm0, ?_⟩
      refine ⟨_, rfl, d, _, rfl, p.gL, _, rfl, _, _, rfl, rfl, ⟨hm0, hm1⟩, _, rfl, d, _, rfl, p.pL _, ?_⟩
      refine ⟨_, rfl, ?_⟩
      exact k _ n _ _ (Int.emod_nonneg _ (by omega)) (Int.emod_lt_of_pos _ hm0) (Int.le_refl _) (by omega) (p.upd' p.n0 (Int.ediv_nonneg p.l0 (by omega))) fun c o e nc => by
        rw [upd_ne nc]; exact e
    · refine ⟨_, rfl, d, _, rfl, p.gA, ?_⟩
      refine ⟨_, rfl, _, _, rfl, rfl, _, rfl, d, _, rfl, p.pA _, ?_⟩
      have p1 : Pen (upd H d (.dK (pen l (n + 1) L))) d l ms (n + 1) L := p.upd' (by have := p.n0; omega) p.l0
      have pw : ((10 : Int).natAbs < 2 ^ 64) := by decide
      refine ⟨_, rfl, d, _, rfl, p1.gC, Nat.zero_le _, fun q hq => ?_⟩
      have p2 : Pen (upd (upd H d (.dK (pen l (n + 1) L))) q (.lst [])) d l ms (n + 1) L :=
        ⟨by rw [upd_ne (ne_of_none p1.dc hq)]; exact p1.dc, by rw [upd_ne (ne_of_none p1.ls hq)]; exact p1.ls, p1.n0, p1.l0⟩
      have keep : ∀ c o, H c = some o → c ≠ d → (upd (upd H d (.dK (pen l (n + 1) L))) q (.lst [])) c = some o := fun c o e nc => by
        have e1 : (upd H d (.dK (pen l (n + 1) L))) c = some o := by rw [upd_ne nc]; exact e
        rw [upd_ne (ne_of_none e1 hq)]
        exact e1
      refine ⟨.list (ms.map PyData.int), .list [], .lst (SqL.of p2.ls) (dp_ints ms), .lst (SqL.of upd_same) .nil, shaped_ints ms, by decide, _, rfl, ite2 (fun c1 => ?_) (fun c1 => ?_)⟩
      · rw [eq_nil] at c1
        have hne : ms ≠ [] := fun z => by
          rw [z] at c1; cases c1
        have hlen : 0 < ms.length := List.length_pos_iff.mpr hne
        have hlen' : (0 : Int) < ((ms.map V.int).length : Int) := by rw [List.length_map]; omega
        have hlt : (n % ((ms.map V.int).length : Int)).toNat < ms.length := by
          have h1 := Int.emod_nonneg n (b := ((ms.map V.int).length : Int)) (by omega)
          have h2 := Int.emod_lt_of_pos n hlen'
          rw [List.length_map] at h1 h2 ⊢
          omega
        have hat : atI (ms.map V.int) (n % ((ms.map V.int).length : Int)) = some (V.int (ms[(n % ((ms.map V.int).length : Int)).toNat]'hlt)) := by
          have h1 := Int.emod_nonneg n (b := ((ms.map V.int).length : Int)) (by omega)
          have h2 : (ms.map V.int)[(n % ((ms.map V.int).length : Int)).toNat]? = some (V.int (ms[(n % ((ms.map V.int).length : Int)).toNat]'hlt)) := by
            rw [List.getElem?_map, List.getElem?_eq_getElem hlt]; rfl
          have h3 := atI_nat h2
          rw [Int.toNat_of_nonneg h1] at h3
          exact h3
        refine ⟨_, rfl, d, _, rfl, p2.gC, _, rfl, _, rfl, d, _, rfl, p2.gC, l, _, rfl, .inl (SqL.of p2.ls), _, _, rfl, rfl, hlen', l, _, _, _, rfl, rfl, SqL.of p2.ls, hat, ?_⟩
        refine ⟨_, rfl, _, rfl, d, _, rfl, p2.gC, l, _, rfl, .inl (SqL.of p2.ls), _, _, rfl, rfl, _, rfl, ite2 (fun c2 => ?_) (fun c2 => ?_)⟩
        · refine ⟨_, rfl, _, _, rfl, rfl, ⟨by decide, by decide, pw⟩, _, _, rfl, rfl, _, rfl, ite2 (fun c3 => ?_) (fun c3 => ?_)⟩
          · have hz := of_decide_eq_true c3
            refine ⟨_, rfl, _, _, rfl, rfl, ⟨by decide, by decide, pw⟩, _, _, rfl, rfl, _, rfl, _, _, rfl, rfl, ⟨hm0, hm1⟩, _, rfl, d, _, rfl, p2.pL _, ?_⟩
            refine ⟨_, rfl, _, _, rfl, rfl, ⟨by decide, by decide, pw⟩, _, _, rfl, rfl, _, rfl, _, _, rfl, rfl, hm0, ?_⟩
            exact k _ (n + 1) _ _ (Int.emod_nonneg _ (by omega)) (Int.emod_lt_of_pos _ hm0) (by omega) (Int.le_refl _) (p2.upd' p2.n0 (Int.ediv_nonneg (by omega) (by omega))) fun c o e nc => by
              rw [upd_ne nc]; exact keep c o e nc
          · skip
            refine ⟨_, rfl, _, _, rfl, rfl, (by show (0 : Int) < 2147483549; decide), _, _, rfl, rfl, .inr ⟨by decide, by decide⟩, _, rfl, _, _, rfl, rfl, .inl ⟨by decide, by decide⟩, _, rfl, _, _, rfl, rfl, .inr ⟨by have := p.n0; omega, by omega⟩, _, _, rfl, rfl, _, rfl, _, _, rfl, rfl, .inl ⟨by decide, by decide⟩, _, _, rfl, rfl, _, _, rfl, rfl, _, _, rfl, rfl, (by show (0 : Int) < 2147483647; decide), ?_⟩
            refine ⟨_, rfl, _, rfl, _, _, rfl, rfl, .inl ⟨Int.lt_of_lt_of_le (by decide) (Int.emod_nonneg _ (by decide)), Int.lt_trans (Int.emod_lt_of_pos _ (by decide)) (by decide)⟩, _, rfl, _, _, rfl, rfl, .inl ⟨by decide, by decide⟩, _, _, rfl, rfl, _, _, rfl, rfl, _, _, rfl, rfl, (by show (0 : Int) < 2147483629; decide), ?_⟩
            refine ⟨_, rfl, _, _, rfl, rfl, ⟨by decide, by decide⟩, _, rfl, _, _, rfl, rfl, hm0, ?_⟩
            exact k _ (n + 1) L _ (Int.emod_nonneg _ (by omega)) (Int.emod_lt_of_pos _ hm0) (by omega) (Int.le_refl _) p2 keep
        · skip
          refine ⟨_, rfl, _, _, rfl, rfl, (by show (0 : Int) < 2147483549; decide), _, _, rfl, rfl, .inr ⟨by decide, by decide⟩, _, rfl, _, _, rfl, rfl, .inl ⟨by decide, by decide⟩, _, rfl, _, _, rfl, rfl, .inr ⟨by have := p.n0; omega, by omega⟩, _, _, rfl, rfl, _, rfl, _, _, rfl, rfl, .inl ⟨by decide, by decide⟩, _, _, rfl, rfl, _, _, rfl, rfl, _, _, rfl, rfl, (by show (0 : Int) < 2147483647; decide), ?_⟩
          refine ⟨_, rfl, _, rfl, _, _, rfl, rfl, .inl ⟨Int.lt_of_lt_of_le (by decide) (Int.emod_nonneg _ (by decide)), Int.lt_trans (Int.emod_lt_of_pos _ (by decide)) (by decide)⟩, _, rfl, _, _, rfl, rfl, .inl ⟨by decide, by decide⟩, _, _, rfl, rfl, _, _, rfl, rfl, _, _, rfl, rfl, (by show (0 : Int) < 2147483629; decide), ?_⟩
          refine ⟨_, rfl, _, _, rfl, rfl, ⟨by decide, by decide⟩, _, rfl, _, _, rfl, rfl, hm0, ?_⟩
          exact k _ (n + 1) L _ (Int.emod_nonneg _ (by omega)) (Int.emod_lt_of_pos _ hm0) (by omega) (Int.le_refl _) p2 keep
      · skip
        refine ⟨_, rfl, _, rfl, d, _, rfl, p2.gC, l, _, rfl, .inl (SqL.of p2.ls), _, _, rfl, rfl, _, rfl, ite2 (fun c2 => ?_) (fun c2 => ?_)⟩
        · refine ⟨_, rfl, _, _, rfl, rfl, ⟨by decide, by decide, pw⟩, _, _, rfl, rfl, _, rfl, ite2 (fun c3 => ?_) (fun c3 => ?_)⟩
          · have hz := of_decide_eq_true c3
            refine ⟨_, rfl, _, _, rfl, rfl, ⟨by decide, by decide, pw⟩, _, _, rfl, rfl, _, rfl, _, _, rfl, rfl, ⟨hm0, hm1⟩, _, rfl, d, _, rfl, p2.pL _, ?_⟩
            refine ⟨_, rfl, _, _, rfl, rfl, ⟨by decide, by decide, pw⟩, _, _, rfl, rfl, _, rfl, _, _, rfl, rfl, hm0, ?_⟩
            exact k _ (n + 1) _ _ (Int.emod_nonneg _ (by omega)) (Int.emod_lt_of_pos _ hm0) (by omega) (Int.le_refl _) (p2.upd' p2.n0 (Int.ediv_nonneg (by omega) (by omega))) fun c o e nc => by
              rw [upd_ne nc]; exact keep c o e nc
          · skip
            refine ⟨_, rfl, _, _, rfl, rfl, (by show (0 : Int) < 2147483549; decide), _, _, rfl, rfl, .inr ⟨by decide, by decide⟩, _, rfl, _, _, rfl, rfl, .inl ⟨by decide, by decide⟩, _, rfl, _, _, rfl, rfl, .inr ⟨by have := p.n0; omega, by omega⟩, _, _, rfl, rfl, _, rfl, _, _, rfl, rfl, .inl ⟨by decide, by decide⟩, _, _, rfl, rfl, _, _, rfl, rfl, _, _, rfl, rfl, (by show (0 : Int) < 2147483647; decide), ?_⟩
            refine ⟨_, rfl, _, rfl, _, _, rfl, rfl, .inl ⟨Int.lt_of_lt_of_le (by decide) (Int.emod_nonneg _ (by decide)), Int.lt_trans (Int.emod_lt_of_pos _ (by decide)) (by decide)⟩, _, rfl, _, _, rfl, rfl, .inl ⟨by decide, by decide⟩, _, _, rfl, rfl, _, _, rfl, rfl, _, _, rfl, rfl, (by show (0 : Int) < 2147483629; decide), ?_⟩
            refine ⟨_, rfl, _, _, rfl, rfl, ⟨by decide, by decide⟩, _, rfl, _, _, rfl, rfl, hm0, ?_⟩
            exact k _ (n + 1) L _ (Int.emod_nonneg _ (by omega)) (Int.emod_lt_of_pos _ hm0) (by omega) (Int.le_refl _) p2 keep
        · skip
          refine ⟨_, rfl, _, _, rfl, rfl, (by show (0 : Int) < 2147483549; decide), _, _, rfl, rfl, .inr ⟨by decide, by decide⟩, _, rfl, _, _, rfl, rfl, .inl ⟨by decide, by decide⟩, _, rfl, _, _, rfl, rfl, .inr ⟨by have := p.n0; omega, by omega⟩, _, _, rfl, rfl, _, rfl, _, _, rfl, rfl, .inl ⟨by decide, by decide⟩, _, _, rfl, rfl, _, _, rfl, rfl, _, _, rfl, rfl, (by show (0 : Int) < 2147483647; decide), ?_⟩
          refine ⟨_, rfl, _, rfl, _, _, rfl, rfl, .inl ⟨Int.lt_of_lt_of_le (by decide) (Int.emod_nonneg _ (by decide)), Int.lt_trans (Int.emod_lt_of_pos _ (by decide)) (by decide)⟩, _, rfl, _, _, rfl, rfl, .inl ⟨by decide, by decide⟩, _, _, rfl, rfl, _, _, rfl, rfl, _, _, rfl, rfl, (by show (0 : Int) < 2147483629; decide), ?_⟩
          refine ⟨_, rfl, _, _, rfl, rfl, ⟨by decide, by decide⟩, _, rfl, _, _, rfl, rfl, hm0, ?_⟩
          exact k _ (n + 1) L _ (Int.emod_nonneg _ (by omega)) (Int.emod_lt_of_pos _ hm0) (by omega) (Int.le_refl _) p2 keep
end
end My

set_option Elab.async false
set_option linter.all false
set_option maxRecDepth 100000
set_option maxHeartbeats 4000000
namespace My
open PySem L2
/-! ### isinstance of a tree -/
def tyN : PyData → String
  | .none => "NoneType" | .bool _ => "bool" | .int _ => "int" | .str _ => "str" | .list _ => "list" | .tuple _ => "tuple" | .dict _ => "dict"
def isStr : PyData → Bool
  | .str _ => true | _ => false
def isInt : PyData → Bool
  | .int _ => true | .bool _ => true | _ => false
def isBool : PyData → Bool
  | .bool _ => true | _ => false
def isTup : PyData → Bool
  | .tuple _ => true | _ => false
def isNon : PyData → Bool
  | .none => true | _ => false
def isTy (T : String) (d : PyData) : Bool := if T = "str" then isStr d else if T = "int" then isInt d else if T = "bool" then isBool d else isTup d
section
variable {P : Program} {w : World} {K : PySem.W.Frag} {mg : Str → Option Value} {pB : Heap}
theorem base_ty {H : Hp} {T : V → List PyData → Prop} {v : V} {d : PyData} (ht : ∀ ds, T v ds → ∃ a xs, v = .ref a ∧ H a = some (.tup xs)) (h : base H T v d) : TyX K H v (.type (tyN d)) := by
  cases d with
  | none => rw [show v = .non from h]; exact .base .non
  | bool b => rw [show v = .bl b from h]; exact .base (.bl b)
  | int i => rw [show v = .int i from h]; exact .base (.int i)
  | str x => rw [show v = .str x from h]; exact .base (.str x)
  | list l =>
    obtain ⟨a, xs, rfl, e⟩ := h
    exact .base (.lst e)
  | dict l =>
    obtain ⟨a, rfl, e⟩ := h
    exact .base (.dK e)
  | tuple ds =>
    obtain ⟨a, xs, rfl, e⟩ := ht ds h
    exact .base (.tup e)
theorem Rep.ty {H : Hp} {m : Nat} {v : V} {d : PyData} (h : Rep H m v d) : TyX K H v (.type (tyN d)) := by
  cases m with
  | zero => exact base_ty (fun _ z => z.elim) h
  | succ m => exact base_ty (fun ds ⟨a, xs, e, q, _⟩ => ⟨a, xs, e, q⟩) h
theorem kit_T {T : String} (hT : T = "str" ∨ T = "int" ∨ T = "bool" ∨ T = "tuple") (d : PyData) : kitB (tyN d) T = some (isTy T d) := by
  rcases hT with rfl | rfl | rfl | rfl <;> cases d <;> kernel_rfl
theorem rd_isi {σ : L2.St} {H : Hp} {Q : VK} {i m : Nat} {T : String} {v : V} {d : PyData} (hT : T = "str" ∨ T = "int" ∨ T = "bool" ∨ T = "tuple") (hσ : σ[i]? = some (some v)) (r : Rep H m v d) (h : Q (.bl (isTy T d)) H) :
    tCB (rIsi K) (tCons (tVar i) (tCons (tC (.ty T)) tNil)) σ H Q :=
  ⟨_, hσ, v, .ty T, .type (tyN d), .type T, _, rfl, .ty T, r.ty, kit_ty (kit_T hT d), h⟩
theorem rep_str {H : Hp} {m : Nat} {v : V} {x : Str} (h : Rep H m v (.str x)) : v = .str x := by
  cases m <;> exact h
theorem rep_int {H : Hp} {m : Nat} {v : V} {i : Int} (h : Rep H m v (.int i)) : v = .int i := by
  cases m <;> exact h
theorem rep_none {H : Hp} {m : Nat} {v : V} (h : Rep H m v .none) : v = .non := by
  cases m <;> exact h
theorem rep_tup {H : Hp} {m : Nat} {v : V} {ds : List PyData} (h : Rep H m v (.tuple ds)) : ∃ k a xs, m = k + 1 ∧ v = .ref a ∧ H a = some (.tup xs) ∧ Paired (Rep H k) xs ds := by
  cases m with
  | zero => exact (show False from h).elim
  | succ k =>
    obtain ⟨a, xs, e, q, p⟩ := (show ∃ a xs, v = .ref a ∧ H a = some (.tup xs) ∧ Paired (Rep H k) xs ds from h)
    exact ⟨k, a, xs, rfl, e, q, p⟩
theorem rep_nonn {H : Hp} {m : Nat} {v : V} {d : PyData} (h : Rep H m v d) : decide (v = .non) = isNon d := by
  have key : ∀ T : V → List PyData → Prop, (∀ ds, T v ds → v ≠ .non) → base H T v d → decide (v = .non) = isNon d := by
    intro T ht hb
    cases d with
    | none => rw [show v = .non from hb]; rfl
    | bool b => rw [show v = .bl b from hb]; rfl
    | int i => rw [show v = .int i from hb]; rfl
    | str x => rw [show v = .str x from hb]; rfl
    | list l =>
      obtain ⟨a, xs, rfl, e⟩ := hb
      rfl
    | dict l =>
      obtain ⟨a, rfl, e⟩ := hb
      rfl
    | tuple ds =>
      have := ht ds hb
      rw [decide_eq_false this]; rfl
  cases m with
  | zero => exact key _ (fun _ z => z.elim) h
  | succ m => exact key _ (fun ds ⟨a, xs, e, _⟩ => by rw [e]; intro z; cases z) h
theorem yes_of {σ : L2.St} {H : Hp} {Q : Bool → Hp → Prop} (h : Q true H) : tYes σ H Q := h
/-! ### is_word -/
def wdD : PyData → Bool
  | .str x => isWd x
  | _ => false
def spIsWord : Sp := fun vs H Q _ => ∃ (m : Nat) (v : V) (d : PyData), vs = [v] ∧ Rep H m v d ∧ szD d ≤ 1000000 ∧ ∀ H', Same H H' → Q (.bl (wdD d)) H'
abbrev sIsWord : Stmt := top 11
theorem scIsWord : FnScope ["thing"] ["thing"] (defScope sIsWord) := ⟨rfl, rfl, rfl, by decide +kernel, rfl, by decide +kernel, by decide +kernel⟩
theorem take_snoc {α : Type} {l : List α} {i : Nat} {a : α} (h : l[i]? = some a) : l.take (i + 1) = l.take i ++ [a] := by
  rw [List.take_succ, h]; rfl
theorem sign_let : ∀ c, c < 128 → (Unicode.isAlpha c && !(Unicode.isUpper c || Unicode.isTitle c)) = decide (c ∈ letters) := by decide +kernel
theorem let_sign : ∀ c ∈ letters, c < 128 ∧ Unicode.isAlpha c = true ∧ Unicode.isLower c = true ∧ (Unicode.isUpper c || Unicode.isTitle c) = false := by decide +kernel
/-- letters, small, of the first 128 signs: a word's signs -/
theorem wd_of (x : Str) (h8 : x.length ≤ 8) : (Txt.isalpha x && (Txt.islower x && Txt.isascii x)) = isWd x := by
  have e0 : x.length = x.cps.toList.length := rfl
  unfold Txt.isalpha Txt.islower Txt.isascii isWd
  rw [← Array.all_toList, ← Array.all_toList, ← Array.any_toList, ← Array.any_toList, e0]
  rw [e0] at h8
  generalize x.cps.toList = l at h8
  rw [Bool.eq_iff_iff]
  simp only [Bool.and_eq_true, decide_eq_true_eq, List.all_eq_true, List.any_eq_true, Bool.not_eq_true', List.any_eq_false, Bool.or_eq_true]
  constructor
  · rintro ⟨⟨h0, ha⟩, ⟨_, hu⟩, hs⟩
    refine ⟨⟨h0, h8⟩, fun c hc => ?_⟩
    have h1 := sign_let c (hs c hc)
    have h2 : (Unicode.isUpper c || Unicode.isTitle c) = false := by
      have := hu c hc
      cases h : (Unicode.isUpper c || Unicode.isTitle c)
      · rfl
      · exact absurd ((Bool.or_eq_true _ _).mp h) this
    rw [ha c hc, h2] at h1
    exact of_decide_eq_true h1.symm
  · rintro ⟨⟨h0, _⟩, hl⟩
    have q := fun c hc => let_sign c (hl c hc)
    refine ⟨⟨h0, fun c hc => (q c hc).2.1⟩, ⟨?_, fun c hc z => ?_⟩, fun c hc => (q c hc).1⟩
    · match l, h0, q with
      | c :: r, _, q => exact ⟨c, List.mem_cons_self .., (q c (List.mem_cons_self ..)).2.2.1⟩
    · have := (q c hc).2.2.2
      rw [(Bool.or_eq_true _ _).mpr z] at this
      cases this
theorem ok_isword {f : Addr} {fd : FuncData} {tk : Tok} (F : Fun K "is_word" "is_word" sIsWord f fd) (mI : mg "isinstance" = none) (mS : mg "str" = none) (mLen : mg "len" = none)
    (mM : mg "MOST_LETTERS" = some (.int 8 tk)) : FnOk P w K mg pB CX0 1 f fd ["thing"] spIsWord := by
  refine F.ok scIsWord (fun vs H Q E h => ?_) (fun cdv A outer s H vs Q E hr h => ?_)
  · obtain ⟨m, v, d, rfl, _⟩ := h
    rfl
  · obtain ⟨m, v, d, rfl, hR, hz, k⟩ := h
    have nd := scIsWord.nd
    refine ⟨_, pss_cons (ps_if (PW.pt (pw_or (pt_not (pt_val (pe_callB call_isi (by rfl) mI (by decide +kernel) (pa_cons (pv 0) (pa_cons (pe_bltn (by rfl) mS (by decide +kernel) (show RelV (.ty "str") (.type "str") from rfl)) pa_nil)))))
        (pw_or1 (pt_cmpR op_gt (pe_callB call_len_str (by rfl) mLen PySem.boot_len (pa_cons (pv 0) pa_nil)) (pe_glob (by rfl) mM (show RelV (.int 8) _ from ⟨_, rfl⟩)) (nomark _))))) (pss_one (ps_ret pe_bl)) pss_nil)
      (pss_one (ps_ret (pe_and (pe_bm0 PySem.F.plainAttrs_str PySem.F.slot_str_isalpha PySem.F.type_str_isalpha mt_isalpha (pv 0))
        (pe_and (pe_bm0 PySem.F.plainAttrs_str PySem.F.slot_str_islower PySem.F.type_str_islower mt_islower (pv 0))
          (pe_one (pe_bm0 PySem.F.plainAttrs_str PySem.F.slot_str_isascii PySem.F.type_str_isascii mt_isascii (pv 0))))))), ?_⟩
    refine rd_isi (.inl rfl) rfl hR ⟨_, rfl, ?_⟩
    cases hd : isStr d with
    | false =>
      refine iteB1 (by rw [show isTy "str" d = isStr d from rfl, hd]; rfl) (iteT ?_)
      have e : wdD d = false := by cases d <;> first | rfl | exact absurd hd (by simp [isStr])
      have := k H (Same.refl _)
      rw [e] at this
      exact this
    | true =>
      obtain ⟨x, rfl⟩ : ∃ x, d = .str x := by
        cases d <;> first | exact ⟨_, rfl⟩ | exact absurd hd (by simp [isStr])
      cases rep_str hR
      have hx : x.length ≤ sizeLine := by
        rw [sizeLine_eq]
        rw [szD] at hz
        omega
      refine iteB0 rfl ?_
      refine ⟨_, rfl, x, rfl, hx, _, _, rfl, rfl, _, rfl, ?_⟩
      have kk := k H (Same.refl _)
      by_cases h8 : x.length ≤ 8
      · refine iteN (by show ¬ ((8 : Int) < (x.length : Int)); omega) ?_
        have e : wdD (.str x) = (Txt.isalpha x && (Txt.islower x && Txt.isascii x)) := (wd_of x h8).symm
        rw [e] at kk
        refine ⟨_, rfl, rfl, x, rfl, rfl, trivial, _, rfl, ?_⟩
        cases h1 : Txt.isalpha x with
        | false => rw [h1] at kk; exact iteF kk
        | true =>
          rw [h1] at kk
          refine iteT ⟨_, rfl, rfl, x, rfl, rfl, trivial, _, rfl, ?_⟩
          cases h2 : Txt.islower x with
          | false => rw [h2] at kk; exact iteF kk
          | true =>
            rw [h2] at kk
            exact iteT ⟨_, rfl, rfl, x, rfl, rfl, trivial, kk⟩
      · refine iteY (by show (8 : Int) < (x.length : Int); omega) ?_
        have e : wdD (.str x) = false := by
          show isWd x = false
          unfold isWd
          rw [decide_eq_false (by omega)]; rfl
        rw [e] at kk
        exact kk
end
end My

set_option Elab.async false
set_option linter.all false
set_option maxRecDepth 100000
set_option maxHeartbeats 4000000
namespace My
open PySem L2
section
variable {P : Program} {w : World} {K : PySem.W.Frag} {mg : Str → Option Value} {pB : Heap}
/-! ### the law's own is_word -/
abbrev sLWord : Stmt := top 35
theorem scLWord : FnScope ["_law_it", "_law_sign"] ["_law_it"] (defScope sLWord) := ⟨rfl, rfl, rfl, by decide +kernel, rfl, by decide +kernel, by decide +kernel⟩
theorem none_out (l : List Nat) : ((l.filter fun c => !decide (c ∈ letters)).map fun c => V.str ⟨#[c]⟩).isEmpty = l.all fun c => decide (c ∈ letters) := by
  induction l with
  | nil => rfl
  | cons c l ih =>
    by_cases h : c ∈ letters
    · rw [List.filter_cons_of_neg (by simp [h]), List.all_cons, ih]; simp [h]
    · rw [List.filter_cons_of_pos (by simp [h])]; simp [h]
theorem ok_lword {f : Addr} {fd : FuncData} (F : Fun K "_law_is_word" "_law_is_word" sLWord f fd) (mI : mg "isinstance" = none) (mS : mg "str" = none) (mLen : mg "len" = none) : FnOk P w K mg pB CX0 1 f fd ["_law_it"] spIsWord := by
  refine F.ok scLWord (fun vs H Q E h => ?_) (fun cdv A outer s H vs Q E hr h => ?_)
  · obtain ⟨m, v, d, rfl, _⟩ := h
    rfl
  · obtain ⟨m, v, d, rfl, hR, hz, k⟩ := h
    have nd := scLWord.nd
    refine ⟨_, pss_cons (ps_if (PW.pt (pw_or (pt_not (pt_val (pe_callB call_isi (by rfl) mI (by decide +kernel) (pa_cons (pv 0) (pa_cons (pe_bltn (by rfl) mS (by decide +kernel) (show RelV (.ty "str") (.type "str") from rfl)) pa_nil)))))
        (pw_or1 (pt_not (pt_chain op_le op_le pe_int (pe_callB call_len_str (by rfl) mLen PySem.boot_len (pa_cons (pv 0) pa_nil)) pe_int))))) (pss_one (ps_ret pe_bl)) pss_nil)
      (pss_one (ps_ret (pe_cmpR (op_eqL0 hr.units)
        (pe_lc (own := [("_law_sign", 1)]) (g := gName 1) (tt := tTest (tOp (fun x y H Q => ∃ (c : Nat) (z : Str), x = .str ⟨#[c]⟩ ∧ y = .str z ∧ Q (.bl (!decide (c ∈ z.cps.toList))) H) (tVar 1) (tC (.str "abcdefghijklmnopqrstuvwxyz")))) (te := tVar 1) rfl nd (pi_str (pv 0))
          (blkOk_by (N := ["_law_it", "_law_sign"]) (sc := defScope sLWord) (by decide +kernel)) (fun _ _ _ _ _ => pg_name (i := 1) nd rfl (Or.inl rfl) (Or.inr rfl)) (fun _ _ _ _ _ => pts_one (pt_cmpR op_notIn_sign (pv 1) pe_str rfl))
          (fun _ _ _ _ _ => pv 1)) (pe_lst pa_nil) (nomark _)))), ?_⟩
    refine rd_isi (.inl rfl) rfl hR ⟨_, rfl, ?_⟩
    cases hd : isStr d with
    | false =>
      refine iteB1 (by rw [show isTy "str" d = isStr d from rfl, hd]; rfl) (iteT ?_)
      have e : wdD d = false := by cases d <;> first | rfl | exact absurd hd (by simp [isStr])
      have := k H (Same.refl _)
      rw [e] at this
      exact this
    | true =>
      obtain ⟨x, rfl⟩ : ∃ x, d = .str x := by
        cases d <;> first | exact ⟨_, rfl⟩ | exact absurd hd (by simp [isStr])
      cases rep_str hR
      have hx : x.length ≤ sizeLine := by
        rw [sizeLine_eq]
        rw [szD] at hz
        omega
      refine iteB0 rfl ?_
      refine ⟨_, rfl, x, rfl, hx, _, _, rfl, rfl, _, rfl, ite2 (fun c1 => ?_) (fun c1 => ?_)⟩
      · refine ⟨_, _, rfl, rfl, _, rfl, ?_⟩
        by_cases h8 : (x.length : Int) ≤ 8
        · refine iteB0 (by rw [decide_eq_true h8]; rfl) ?_
          refine ⟨_, rfl, x, rfl, fun D hD => ?_⟩
          refine lc_str (fun i H' => Same H H' ∧ H' D = some (.lst ((((TL.tl x).take i).filter fun c => !decide (c ∈ letters)).map fun c => V.str ⟨#[c]⟩))) ⟨Same.new (Same.refl _) hD, upd_same⟩ (fun i c H' hc p => ?_) (fun H' p => ?_)
          · obtain ⟨p1, p2⟩ := p
            have hc' : (TL.tl x)[i]? = some c := by
              rw [← hc]; exact Array.getElem?_toList
            refine ⟨rfl, _, rfl, c, _, rfl, rfl, _, rfl, ?_⟩
            by_cases hin : c ∈ letters
            · refine iteB0 (by rw [show decide (c ∈ (Str.ofString "abcdefghijklmnopqrstuvwxyz").cps.toList) = true from decide_eq_true hin]; rfl) ⟨p1, ?_⟩
              rw [p2, take_snoc hc', List.filter_append, List.filter_cons_of_neg (by simp [hin])]
              simp
            · refine iteB1 (by rw [show decide (c ∈ (Str.ofString "abcdefghijklmnopqrstuvwxyz").cps.toList) = false from decide_eq_false hin]; rfl) ⟨_, rfl, _, p2, ?_, ?_⟩
              · rw [List.length_map]
                refine Nat.lt_of_le_of_lt (Nat.le_trans (List.length_filter_le _ _) (List.length_take_le' _ _)) ?_
                rw [← TL.len_tl]
                exact Nat.lt_of_le_of_lt (show x.length ≤ 8 by omega) (by decide)
              · refine ⟨fun b o e => ?_, ?_⟩
                · rw [upd_ne (ne_of_none e hD)]; exact p1 b o e
                · rw [upd_same, take_snoc hc', List.filter_append, List.filter_cons_of_pos (by simp [hin]), List.map_append]; rfl
          · obtain ⟨p1, p2⟩ := p
            have e1 : ((TL.tl x).take x.cps.size) = TL.tl x := List.take_of_length_le (by simp [TL.tl])
            rw [e1] at p2
            refine ⟨by show 0 ≤ sizeLine; decide, fun q hq => ?_⟩
            have s2 : Same H' (upd H' q (.lst [])) := Same.new (Same.refl _) hq
            refine ⟨D, q, _, rfl, rfl, SqL.of (s2 _ _ p2), SqL.of upd_same, ?_⟩
            rw [none_out]
            have e2 : wdD (.str x) = (TL.tl x).all fun c => decide (c ∈ letters) := by
              show isWd x = _
              unfold isWd
              rw [decide_eq_true ⟨by have := of_decide_eq_true c1; omega, by omega⟩]
              rfl
            have := k _ (p1.trans s2)
            rw [e2] at this
            exact this
        · refine iteB1 (by rw [decide_eq_false h8]; rfl) ?_
          have e : wdD (.str x) = false := by
            show isWd x = false
            unfold isWd
            rw [decide_eq_false (by omega)]; rfl
          have := k H (Same.refl _)
          rw [e] at this
          exact this
      · refine ⟨_, rfl, iteB1 rfl ?_⟩
        have e : wdD (.str x) = false := by
          show isWd x = false
          unfold isWd
          rw [decide_eq_false (fun z => c1 (decide_eq_true (by omega)))]; rfl
        have := k H (Same.refl _)
        rw [e] at this
        exact this
/-! ### numbers between two ends -/
def btw (lo hi : Int) : PyData → Bool
  | .int i => decide (lo ≤ i) && decide (i ≤ hi)
  | _ => false
def spBtw : Sp := fun vs H Q _ => ∃ (m : Nat) (v : V) (d : PyData) (lo hi : Int), vs = [v, .int lo, .int hi] ∧ Rep H m v d ∧ Q (.bl (btw lo hi d)) H

abbrev sBtw : Stmt := top 12
theorem sc_between : FnScope ["thing", "least", "most"] ["thing", "least", "most"] (defScope sBtw) := ⟨rfl, rfl, rfl, by decide +kernel, rfl, by decide +kernel, by decide +kernel⟩
theorem ok_between {f : Addr} {fd : FuncData} (F : Fun K "is_between" "is_between" sBtw f fd) (mI : mg "isinstance" = none) (mint : mg "int" = none) (mbool : mg "bool" = none) : FnOk P w K mg pB CX0 1 f fd ["thing", "least", "most"] spBtw := by
  refine F.ok sc_between (fun vs H Q E h => ?_) (fun cdv A outer s H vs Q E hr h => ?_)
  · obtain ⟨m, v, d, lo, hi, rfl, _⟩ := h
    rfl
  · obtain ⟨m, v, d, lo, hi, rfl, hR, k⟩ := h
    refine ⟨_, pss_one (ps_ret (pe_and (pe_callB call_isi (by rfl) mI (by decide +kernel) (pa_cons (pv 0) (pa_cons (pe_bltn (by rfl) mint (by decide +kernel) (show RelV (.ty "int") (.type "int") from rfl)) pa_nil))) (pe_and (pe_not (pe_callB call_isi (by rfl) mI (by decide +kernel) (pa_cons (pv 0) (pa_cons (pe_bltn (by rfl) mbool (by decide +kernel) (show RelV (.ty "bool") (.type "bool") from rfl)) pa_nil)))) (pe_one (pe_chain op_le op_le (pv 1) (pv 0) (pv 2)))))), ?_⟩
    refine rd_isi (.inr (.inl rfl)) rfl hR ⟨_, rfl, ?_⟩
    cases d with
    | int i =>
      refine iteB1 rfl (rd_isi (.inr (.inr (.inl rfl))) rfl hR ⟨_, rfl, _, rfl, iteB1 rfl ?_⟩)
      cases rep_int hR
      refine ⟨_, rfl, _, rfl, _, _, rfl, rfl, _, rfl, ?_⟩
      by_cases c : lo ≤ i
      · refine iteB1 (decide_eq_true c) ⟨_, rfl, _, _, rfl, rfl, ?_⟩
        have := k
        rw [btw, decide_eq_true c] at this
        exact this
      · refine iteB0 (decide_eq_false c) ?_
        have := k
        rw [btw, decide_eq_false c] at this
        exact this
    | bool b => exact iteB1 rfl (rd_isi (.inr (.inr (.inl rfl))) rfl hR ⟨_, rfl, _, rfl, iteB0 rfl k⟩)
    | none => exact iteB0 rfl k
    | str x => exact iteB0 rfl k
    | list l => exact iteB0 rfl k
    | tuple l => exact iteB0 rfl k
    | dict l => exact iteB0 rfl k
abbrev sFrom : Stmt := top 34
theorem sc_from : FnScope ["_law_it", "_law_least", "_law_most"] ["_law_it", "_law_least", "_law_most"] (defScope sFrom) := ⟨rfl, rfl, rfl, by decide +kernel, rfl, by decide +kernel, by decide +kernel⟩
theorem ok_from {f : Addr} {fd : FuncData} (F : Fun K "_law_is_from" "_law_is_from" sFrom f fd) (mI : mg "isinstance" = none) (mint : mg "int" = none) (mbool : mg "bool" = none) : FnOk P w K mg pB CX0 1 f fd ["_law_it", "_law_least", "_law_most"] spBtw := by
  refine F.ok sc_from (fun vs H Q E h => ?_) (fun cdv A outer s H vs Q E hr h => ?_)
  · obtain ⟨m, v, d, lo, hi, rfl, _⟩ := h
    rfl
  · obtain ⟨m, v, d, lo, hi, rfl, hR, k⟩ := h
    refine ⟨_, pss_one (ps_ret (pe_and (pe_callB call_isi (by rfl) mI (by decide +kernel) (pa_cons (pv 0) (pa_cons (pe_bltn (by rfl) mint (by decide +kernel) (show RelV (.ty "int") (.type "int") from rfl)) pa_nil))) (pe_and (pe_not (pe_callB call_isi (by rfl) mI (by decide +kernel) (pa_cons (pv 0) (pa_cons (pe_bltn (by rfl) mbool (by decide +kernel) (show RelV (.ty "bool") (.type "bool") from rfl)) pa_nil)))) (pe_one (pe_chain op_le op_le (pv 1) (pv 0) (pv 2)))))), ?_⟩
    refine rd_isi (.inr (.inl rfl)) rfl hR ⟨_, rfl, ?_⟩
    cases d with
    | int i =>
      refine iteB1 rfl (rd_isi (.inr (.inr (.inl rfl))) rfl hR ⟨_, rfl, _, rfl, iteB1 rfl ?_⟩)
      cases rep_int hR
      refine ⟨_, rfl, _, rfl, _, _, rfl, rfl, _, rfl, ?_⟩
      by_cases c : lo ≤ i
      · refine iteB1 (decide_eq_true c) ⟨_, rfl, _, _, rfl, rfl, ?_⟩
        have := k
        rw [btw, decide_eq_true c] at this
        exact this
      · refine iteB0 (decide_eq_false c) ?_
        have := k
        rw [btw, decide_eq_false c] at this
        exact this
    | bool b => exact iteB1 rfl (rd_isi (.inr (.inr (.inl rfl))) rfl hR ⟨_, rfl, _, rfl, iteB0 rfl k⟩)
    | none => exact iteB0 rfl k
    | str x => exact iteB0 rfl k
    | list l => exact iteB0 rfl k
    | tuple l => exact iteB0 rfl k
    | dict l => exact iteB0 rfl k
end
end My

set_option Elab.async false
set_option linter.all false
set_option maxRecDepth 100000
set_option maxHeartbeats 4000000
namespace My
open PySem L2
section
variable {P : Program} {w : World} {K : PySem.W.Frag} {mg : Str → Option Value} {pB : Heap}
theorem Paired.at {α β : Type} {F : α → β → Prop} : ∀ {xs : List α} {ys : List β} {i : Nat} {x : α}, Paired F xs ys → xs[i]? = some x → ∃ y, ys[i]? = some y ∧ F x y
  | _, _, _, _, .nil, e => by simp at e
  | _, _, 0, _, .cons r _, e => by
    simp at e
    subst e
    exact ⟨_, rfl, r⟩
  | _, _, i + 1, x, .cons _ t, e => by
    obtain ⟨y, h1, h2⟩ := Paired.at (i := i) (x := x) t (by simpa using e)
    exact ⟨y, by simpa using h1, h2⟩
/-- the promise of no call at all -/
def spBot : Sp := fun _ _ _ _ => False
theorem ok_bot {k : Nat} {f : Addr} {fd : FuncData} {ps : List Str} : FnOk P w K mg pB CX0 k f fd ps spBot := ⟨fun _ _ _ _ h => h.elim, fun _ _ _ _ _ _ _ _ _ _ _ _ _ h => h.elim⟩
def spWth (n : Nat) : Sp := fun vs H Q _ => ∃ (m : Nat) (v : V) (d : PyData), vs = [v, .int (n : Int)] ∧ Rep H m v d ∧ szD d ≤ 1000000 ∧ ∀ H', Same H H' → Q (.bl (isW n d)) H'
def spPrev : Nat → Sp
  | 0 => spBot
  | n + 1 => spWth n
theorem leaf_or {d : PyData} (h : ∀ ds, d ≠ .tuple ds) (n : Nat) : isW n d = (isNon d || (wdD d || btw (-1000000000) 1000000000 d)) := by
  rw [isW_leaf h]
  cases d with
  | tuple ds => exact absurd rfl (h ds)
  | int i =>
    show decide _ = (false || (false || (decide _ && decide _)))
    rw [Bool.false_or, Bool.false_or, Bool.decide_and]
  | str x =>
    show isWd x = (false || (isWd x || false))
    rw [Bool.false_or, Bool.or_false]
  | none => rfl
  | bool b => rfl
  | list l => rfl
  | dict l => rfl
abbrev sWth : Stmt := top 14
theorem scWth : FnScope ["thing", "levels", "part"] ["thing", "levels"] (defScope sWth) := ⟨rfl, rfl, rfl, by decide +kernel, rfl, by decide +kernel, by decide +kernel⟩
theorem step_within {f fW fB : Addr} {fd dW dB : FuncData} {tk tk2 : Tok} (F : Fun K "is_worth_within" "is_worth_within" sWth f fd) (n : Nat) (G : FnOk P w K mg pB CX0 (n + 1) f fd ["thing", "levels"] (spPrev n)) (mG : mg "is_worth_within" = some (.ref f)) (bG : Binds K fd ["thing", "levels"] [])
    (GW : FnOk P w K mg pB CX0 1 fW dW ["thing"] spIsWord) (mW : mg "is_word" = some (.ref fW)) (kW : PySem.W.keepIn K (.ref fW) = true) (bW : Binds K dW ["thing"] [])
    (GB : FnOk P w K mg pB CX0 1 fB dB ["thing", "least", "most"] spBtw) (mB : mg "is_between" = some (.ref fB)) (kB : PySem.W.keepIn K (.ref fB) = true) (bB : Binds K dB ["thing", "least", "most"] [])
    (mI : mg "isinstance" = none) (mT : mg "tuple" = none) (mLen : mg "len" = none) (mAll : mg "all" = none) (mF : mg "FARTHEST" = some (.int 1000000000 tk)) (mM : mg "MOST_WORTHS" = some (.int 20 tk2)) :
    FnOk P w K mg pB CX0 (n + 2) f fd ["thing", "levels"] (spWth n) := by
  refine F.ok scWth (fun vs H Q E h => ?_) (fun cdv A outer s H vs Q E hr h => ?_)
  · obtain ⟨m, v, d, rfl, _⟩ := h
    rfl
  · obtain ⟨m, v, d, rfl, hR, hz, k⟩ := h
    have nd := scWth.nd
    have hr1 : Room 1 _ := hr.mono (by omega)
    have pF : ∀ {X : Cx} {p : Pos}, Gl X "FARTHEST" → X.mg "FARTHEST" = some (.int 1000000000 tk) → PE X (.Name "FARTHEST" p) (tC (.int 1000000000)) := fun hg hm => pe_glob hg hm (show RelV (.int 1000000000) _ from ⟨_, rfl⟩)
    refine ⟨_, pss_cons (ps_if (pt_not (pt_val (pe_callB call_isi (by rfl) mI (by decide +kernel) (pa_cons (pv 0) (pa_cons (pe_bltn (by rfl) mT (by decide +kernel) (show RelV (.ty "tuple") (.type "tuple") from rfl)) pa_nil)))))
        (pss_one (ps_ret (pe_or (pe_cmp (pc_isN (pv 0)) rfl) (pe_or (pe_call GW hr1 rfl mW kW bW .nil pass0 (pa_cons (pv 0) pa_nil))
          (pe_one (pe_call GB hr1 rfl mB kB bB .nil pass0 (pa_cons (pv 0) (pa_cons (pe_un un_neg (pF (by rfl) mF)) (pa_cons (pF (by rfl) mF) pa_nil)))))))))  pss_nil)
      (pss_cons (ps_if (PW.pt (pw_or (pt_cmpR op_eq (pv 1) pe_int (nomark _)) (pw_or1 (pt_cmpR op_gt (pe_callB call_len_seq (by rfl) mLen PySem.boot_len (pa_cons (pv 0) pa_nil)) (pe_glob (by rfl) mM (show RelV (.int 20) _ from ⟨_, rfl⟩)) (nomark _)))))
        (pss_one (ps_ret pe_bl)) pss_nil)
      (pss_one (ps_ret (pe_callB (cr_all rfl) (by rfl) mAll (by decide +kernel) (pa_cons
        (pe_lc (own := [("part", 2)]) (g := gName 2) (tt := tYes) (te := tCall (spPrev n) [] E0 (tCons (tVar 2) (tCons (tOp (rI0 fun i j => .int (i - j)) (tVar 1) (tC (.int 1))) tNil))) rfl nd (pi_tup (pv 0))
          (blkOk_by (N := ["thing", "levels", "part"]) (sc := defScope sWth) (by decide +kernel)) (fun _ _ _ _ _ => pg_name (i := 2) nd rfl (Or.inl rfl) (Or.inr rfl)) (fun _ _ _ _ _ => pts_nil)
          (fun _ _ _ _ _ => pe_call G hr rfl mG F.kp bG .nil pass0 (pa_cons (pv 2) (pa_cons (pe_op op_sub (pv 1) pe_int) pa_nil)))) pa_nil))))), ?_⟩
    refine rd_isi (.inr (.inr (.inr rfl))) rfl hR ⟨_, rfl, ?_⟩
    rcases @notTup d with ⟨ds, rfl⟩ | hn
    · refine iteB0 rfl ?_
      obtain ⟨m', a, xs, rfl, rfl, ha, hp⟩ := rep_tup hR
      have hlen := Paired.length hp
      cases n with
      | zero =>
        refine ⟨_, rfl, rfl, _, rfl, iteY rfl (iteT ?_)⟩
        exact k H (Same.refl _)
      | succ n =>
        refine ⟨_, rfl, rfl, _, rfl, iteN (by intro z; have := V.int.inj z; omega) ?_⟩
        refine ⟨_, rfl, a, xs, rfl, .inr (SqT.of ha), _, _, rfl, rfl, _, rfl, ?_⟩
        by_cases h20 : ds.length ≤ 20
        · refine iteB0 (decide_eq_false (by omega)) ?_
          refine ⟨_, rfl, a, rfl, ⟨_, SqT.of ha⟩, fun D hD => ?_⟩
          refine lc_tup (K := K) (xs := xs) (fun i H' => Same H H' ∧ H' D = some (.lst ((ds.take i).map fun e => V.bl (isW n e)))) ⟨Same.new (Same.refl _) hD, upd_same⟩ (fun i H' _ p => SqT.of (p.1 _ _ ha)) (fun i x H' hx p => ?_) (fun H' p => ?_)
          · obtain ⟨p1, p2⟩ := p
            obtain ⟨e, he, hre⟩ := Paired.at hp hx
            have hsz : szD e ≤ 1000000 := by
              have h1 := szL_get he
              rw [szD] at hz
              omega
            refine ⟨rfl, yes_of (iteT ?_)⟩
            refine ⟨_, rfl, _, rfl, _, _, rfl, rfl, m', x, e, ?_, hre.same p1, hsz, fun H2 s2 => ⟨_, s2 _ _ p2, ?_, ?_⟩⟩
            · show [x, V.int (((n + 1 : Nat) : Int) - 1)] = [x, V.int (n : Int)]
              rw [show (((n + 1 : Nat) : Int) - 1) = (n : Int) by omega]
            · rw [List.length_map]
              refine Nat.lt_of_le_of_lt (List.length_take_le' _ _) (Nat.lt_of_le_of_lt h20 (by decide))
            · refine ⟨fun b o ec => ?_, ?_⟩
              · rw [upd_ne (ne_of_none ec hD)]; exact s2 _ _ (p1 b o ec)
              · rw [upd_same, take_snoc he, List.map_append]; rfl
          · obtain ⟨p1, p2⟩ := p
            rw [hlen, List.take_length] at p2
            refine ⟨D, ds.map (isW n), rfl, SqL.of (by rw [p2, List.map_map]; rfl), ?_⟩
            have e2 : isW (n + 1) (.tuple ds) = (ds.map (isW n)).all id := by
              rw [isW, decide_eq_true h20, Bool.true_and, List.all_map]; rfl
            have := k H' p1
            rw [e2] at this
            exact this
        · refine iteB1 (decide_eq_true (by omega)) ?_
          have e2 : isW (n + 1) (.tuple ds) = false := by
            rw [isW, decide_eq_false h20]; rfl
          have := k H (Same.refl _)
          rw [e2] at this
          exact this
    · refine iteB1 (by cases d <;> first | rfl | exact absurd rfl (hn _)) ?_
      refine ⟨_, rfl, _, rfl, ?_⟩
      rw [rep_nonn hR]
      have e0 := leaf_or hn n
      cases hnn : isNon d with
      | true =>
        rw [hnn] at e0
        have := k H (Same.refl _)
        rw [e0] at this
        exact iteT this
      | false =>
        rw [hnn, Bool.false_or] at e0
        refine iteF ⟨_, rfl, m, v, d, rfl, hR, hz, fun H1 s1 => ⟨_, rfl, ?_⟩⟩
        cases hw : wdD d with
        | true =>
          rw [hw] at e0
          have := k H1 s1
          rw [e0] at this
          exact iteT this
        | false =>
          rw [hw, Bool.false_or] at e0
          refine iteF ⟨_, rfl, _, rfl, m, v, d, -1000000000, 1000000000, rfl, hR.same s1, ?_⟩
          have := k H1 s1
          rw [e0] at this
          exact this
theorem ok_within {f fW fB : Addr} {fd dW dB : FuncData} {tk tk2 : Tok} (F : Fun K "is_worth_within" "is_worth_within" sWth f fd) (mG : mg "is_worth_within" = some (.ref f)) (bG : Binds K fd ["thing", "levels"] [])
    (GW : FnOk P w K mg pB CX0 1 fW dW ["thing"] spIsWord) (mW : mg "is_word" = some (.ref fW)) (kW : PySem.W.keepIn K (.ref fW) = true) (bW : Binds K dW ["thing"] [])
    (GB : FnOk P w K mg pB CX0 1 fB dB ["thing", "least", "most"] spBtw) (mB : mg "is_between" = some (.ref fB)) (kB : PySem.W.keepIn K (.ref fB) = true) (bB : Binds K dB ["thing", "least", "most"] [])
    (mI : mg "isinstance" = none) (mT : mg "tuple" = none) (mLen : mg "len" = none) (mAll : mg "all" = none) (mF : mg "FARTHEST" = some (.int 1000000000 tk)) (mM : mg "MOST_WORTHS" = some (.int 20 tk2)) :
    ∀ n, FnOk P w K mg pB CX0 (n + 2) f fd ["thing", "levels"] (spWth n)
  | 0 => step_within F 0 ok_bot mG bG GW mW kW bW GB mB kB bB mI mT mLen mAll mF mM
  | n + 1 => step_within F (n + 1) (ok_within F mG bG GW mW kW bW GB mB kB bB mI mT mLen mAll mF mM n) mG bG GW mW kW bW GB mB kB bB mI mT mLen mAll mF mM
end
end My

set_option Elab.async false
set_option linter.all false
set_option maxRecDepth 100000
set_option maxHeartbeats 4000000
namespace My
open PySem L2
section
variable {P : Program} {w : World} {K : PySem.W.Frag} {mg : Str → Option Value} {pB : Heap}
def spIsWorth : Sp := fun vs H Q _ => ∃ (m : Nat) (v : V) (d : PyData), vs = [v] ∧ Rep H m v d ∧ szD d ≤ 1000000 ∧ ∀ H', Same H H' → Q (.bl (isW 4 d)) H'
abbrev sIsWorth : Stmt := top 13
theorem scIsWorth : FnScope ["thing"] ["thing"] (defScope sIsWorth) := ⟨rfl, rfl, rfl, by decide +kernel, rfl, by decide +kernel, by decide +kernel⟩
theorem ok_isworth {f fG : Addr} {fd dG : FuncData} {tk : Tok} (F : Fun K "is_worth" "is_worth" sIsWorth f fd) (G : FnOk P w K mg pB CX0 6 fG dG ["thing", "levels"] (spWth 4)) (mG : mg "is_worth_within" = some (.ref fG)) (kG : PySem.W.keepIn K (.ref fG) = true) (bG : Binds K dG ["thing", "levels"] [])
    (mL : mg "WORTH_LEVELS" = some (.int 4 tk)) : FnOk P w K mg pB CX0 7 f fd ["thing"] spIsWorth := by
  refine F.ok scIsWorth (fun vs H Q E h => ?_) (fun cdv A outer s H vs Q E hr h => ?_)
  · obtain ⟨m, v, d, rfl, _⟩ := h
    rfl
  · obtain ⟨m, v, d, rfl, hR, hz, k⟩ := h
    refine ⟨_, pss_one (ps_ret (pe_call G hr rfl mG kG bG .nil pass0 (pa_cons (pv 0) (pa_cons (pe_glob (by rfl) mL (show RelV (.int 4) _ from ⟨_, rfl⟩)) pa_nil)))), ?_⟩
    exact ⟨_, rfl, m, v, d, rfl, hR, hz, k⟩
abbrev sLWorth : Stmt := top 36
theorem scLWorth : FnScope ["_law_it", "_law_left", "_law_one"] ["_law_it", "_law_left"] (defScope sLWorth) := ⟨rfl, rfl, rfl, by decide +kernel, rfl, by decide +kernel, by decide +kernel⟩
theorem step_lworth {f fW fB : Addr} {fd dW dB : FuncData} (F : Fun K "_law_is_worth" "_law_is_worth" sLWorth f fd) (n : Nat) (G : FnOk P w K mg pB CX0 (n + 1) f fd ["_law_it", "_law_left"] (spPrev n)) (mG : mg "_law_is_worth" = some (.ref f)) (bG : Binds K fd ["_law_it", "_law_left"] [])
    (GW : FnOk P w K mg pB CX0 1 fW dW ["_law_it"] spIsWord) (mW : mg "_law_is_word" = some (.ref fW)) (kW : PySem.W.keepIn K (.ref fW) = true) (bW : Binds K dW ["_law_it"] [])
    (GB : FnOk P w K mg pB CX0 1 fB dB ["_law_it", "_law_least", "_law_most"] spBtw) (mB : mg "_law_is_from" = some (.ref fB)) (kB : PySem.W.keepIn K (.ref fB) = true) (bB : Binds K dB ["_law_it", "_law_least", "_law_most"] [])
    (mI : mg "isinstance" = none) (mT : mg "tuple" = none) (mLen : mg "len" = none) : FnOk P w K mg pB CX0 (n + 2) f fd ["_law_it", "_law_left"] (spWth n) := by
  refine F.ok scLWorth (fun vs H Q E h => ?_) (fun cdv A outer s H vs Q E hr h => ?_)
  · obtain ⟨m, v, d, rfl, _⟩ := h
    rfl
  · obtain ⟨m, v, d, rfl, hR, hz, k⟩ := h
    have nd := scLWorth.nd
    have hr1 : Room 1 _ := hr.mono (by omega)
    refine ⟨_, pss_cons (ps_if (pt_val (pe_callB call_isi (by rfl) mI (by decide +kernel) (pa_cons (pv 0) (pa_cons (pe_bltn (by rfl) mT (by decide +kernel) (show RelV (.ty "tuple") (.type "tuple") from rfl)) pa_nil))))
        (pss_one (ps_ret (pe_and (pe_cmpR op_gt (pv 1) pe_int (nomark _)) (pe_and (pe_cmpR op_le (pe_callB call_len_seq (by rfl) mLen PySem.boot_len (pa_cons (pv 0) pa_nil)) pe_int (nomark _))
          (pe_one (pe_cmpR (op_eqL0 hr.units)
            (pe_lc (own := [("_law_one", 2)]) (g := gName 2) (tt := tNot (tB (tCall (spPrev n) [] E0 (tCons (tVar 2) (tCons (tOp (rI0 fun i j => .int (i - j)) (tVar 1) (tC (.int 1))) tNil))))) (te := tVar 2) rfl nd (pi_tup (pv 0))
              (blkOk_by (N := ["_law_it", "_law_left", "_law_one"]) (sc := defScope sLWorth) (by decide +kernel)) (fun _ _ _ _ _ => pg_name (i := 2) nd rfl (Or.inl rfl) (Or.inr rfl))
              (fun _ _ _ _ _ => pts_one (pt_not (pt_val (pe_call G hr rfl mG F.kp bG .nil pass0 (pa_cons (pv 2) (pa_cons (pe_op op_sub (pv 1) pe_int) pa_nil)))))) (fun _ _ _ _ _ => pv 2))
            (pe_lst pa_nil) (nomark _))))))) pss_nil)
      (pss_one (ps_ret (pe_or (pe_cmp (pc_isN (pv 0)) rfl) (pe_or (pe_call GW hr1 rfl mW kW bW .nil pass0 (pa_cons (pv 0) pa_nil))
          (pe_one (pe_call GB hr1 rfl mB kB bB .nil pass0 (pa_cons (pv 0) (pa_cons (pe_un un_neg pe_int) (pa_cons pe_int pa_nil))))))))), ?_⟩
    refine rd_isi (.inr (.inr (.inr rfl))) rfl hR ⟨_, rfl, ?_⟩
    rcases @notTup d with ⟨ds, rfl⟩ | hn
    · refine iteB1 rfl ?_
      obtain ⟨m', a, xs, rfl, rfl, ha, hp⟩ := rep_tup hR
      have hlen := Paired.length hp
      cases n with
      | zero =>
        refine ⟨_, rfl, _, _, rfl, rfl, _, rfl, iteB0 rfl ?_⟩
        exact k H (Same.refl _)
      | succ n =>
        refine ⟨_, rfl, _, _, rfl, rfl, _, rfl, iteB1 (decide_eq_true (by omega)) ?_⟩
        refine ⟨_, rfl, a, xs, rfl, .inr (SqT.of ha), _, _, rfl, rfl, _, rfl, ?_⟩
        by_cases h20 : ds.length ≤ 20
        · refine iteB1 (decide_eq_true (by omega)) ?_
          refine ⟨_, rfl, a, rfl, ⟨_, SqT.of ha⟩, fun D hD => ?_⟩
          refine lc_tup (K := K) (xs := xs) (fun i H' => Same H H' ∧ ∃ ys, H' D = some (.lst ys) ∧ ys.isEmpty = (ds.take i).all (isW n) ∧ ys.length ≤ i) ⟨Same.new (Same.refl _) hD, [], upd_same, rfl, Nat.le_refl _⟩ (fun i H' _ p => SqT.of (p.1 _ _ ha)) (fun i x H' hx p => ?_) (fun H' p => ?_)
          · obtain ⟨p1, ys, p2, p3, p4⟩ := p
            obtain ⟨e, he, hre⟩ := Paired.at hp hx
            have hsz : szD e ≤ 1000000 := by
              have h1 := szL_get he
              rw [szD] at hz
              omega
            have hix : i < 21 := by
              have := (List.getElem?_eq_some_iff.mp hx).1
              omega
            refine ⟨rfl, _, rfl, _, rfl, _, _, rfl, rfl, m', x, e, ?_, hre.same p1, hsz, fun H2 s2 => ⟨_, rfl, ?_⟩⟩
            · show [x, V.int (((n + 1 : Nat) : Int) - 1)] = [x, V.int (n : Int)]
              rw [show (((n + 1 : Nat) : Int) - 1) = (n : Int) by omega]
            · cases hw : isW n e with
              | true =>
                refine iteF ⟨p1.trans s2, ys, s2 _ _ p2, ?_, by omega⟩
                rw [p3, take_snoc he, List.all_append]; simp [hw]
              | false =>
                refine iteT ⟨_, rfl, ys, s2 _ _ p2, Nat.lt_of_le_of_lt (show ys.length ≤ 20 by omega) (by decide), fun b o ec => ?_, ys ++ [x], upd_same, ?_, ?_⟩
                · rw [upd_ne (ne_of_none ec hD)]; exact s2 _ _ (p1 b o ec)
                · rw [take_snoc he, List.all_append]; simp [hw]
                · rw [List.length_append]; show _ + 1 ≤ _; omega
          · obtain ⟨p1, ys, p2, p3, p4⟩ := p
            rw [hlen, List.take_length] at p3
            refine ⟨by show 0 ≤ sizeLine; decide, fun q hq => ?_⟩
            have s2 : Same H' (upd H' q (.lst [])) := Same.new (Same.refl _) hq
            refine ⟨D, q, ys, rfl, rfl, SqL.of (s2 _ _ p2), SqL.of upd_same, ?_⟩
            have e2 : isW (n + 1) (.tuple ds) = ys.isEmpty := by
              rw [isW, decide_eq_true h20, Bool.true_and, p3]
            have := k _ (p1.trans s2)
            rw [e2] at this
            exact this
        · refine iteB0 (decide_eq_false (by omega)) ?_
          have e2 : isW (n + 1) (.tuple ds) = false := by
            rw [isW, decide_eq_false h20]; rfl
          have := k H (Same.refl _)
          rw [e2] at this
          exact this
    · refine iteB0 (by cases d <;> first | rfl | exact absurd rfl (hn _)) ?_
      refine ⟨_, rfl, _, rfl, ?_⟩
      rw [rep_nonn hR]
      have e0 := leaf_or hn n
      cases hnn : isNon d with
      | true =>
        rw [hnn] at e0
        have := k H (Same.refl _)
        rw [e0] at this
        exact iteT this
      | false =>
        rw [hnn, Bool.false_or] at e0
        refine iteF ⟨_, rfl, m, v, d, rfl, hR, hz, fun H1 s1 => ⟨_, rfl, ?_⟩⟩
        cases hw : wdD d with
        | true =>
          rw [hw] at e0
          have := k H1 s1
          rw [e0] at this
          exact iteT this
        | false =>
          rw [hw, Bool.false_or] at e0
          refine iteF ⟨_, rfl, _, rfl, m, v, d, -1000000000, 1000000000, rfl, hR.same s1, ?_⟩
          have := k H1 s1
          rw [e0] at this
          exact this
theorem ok_lworth {f fW fB : Addr} {fd dW dB : FuncData} (F : Fun K "_law_is_worth" "_law_is_worth" sLWorth f fd) (mG : mg "_law_is_worth" = some (.ref f)) (bG : Binds K fd ["_law_it", "_law_left"] [])
    (GW : FnOk P w K mg pB CX0 1 fW dW ["_law_it"] spIsWord) (mW : mg "_law_is_word" = some (.ref fW)) (kW : PySem.W.keepIn K (.ref fW) = true) (bW : Binds K dW ["_law_it"] [])
    (GB : FnOk P w K mg pB CX0 1 fB dB ["_law_it", "_law_least", "_law_most"] spBtw) (mB : mg "_law_is_from" = some (.ref fB)) (kB : PySem.W.keepIn K (.ref fB) = true) (bB : Binds K dB ["_law_it", "_law_least", "_law_most"] [])
    (mI : mg "isinstance" = none) (mT : mg "tuple" = none) (mLen : mg "len" = none) : ∀ n, FnOk P w K mg pB CX0 (n + 2) f fd ["_law_it", "_law_left"] (spWth n)
  | 0 => step_lworth F 0 ok_bot mG bG GW mW kW bW GB mB kB bB mI mT mLen
  | n + 1 => step_lworth F (n + 1) (ok_lworth F mG bG GW mW kW bW GB mB kB bB mI mT mLen n) mG bG GW mW kW bW GB mB kB bB mI mT mLen
end
end My

set_option Elab.async false
set_option linter.all false
set_option maxRecDepth 100000
set_option maxHeartbeats 4000000
namespace My
open PySem L2
section
variable {P : Program} {w : World} {K : PySem.W.Frag} {mg : Str → Option Value} {pB : Heap}
/-! ### what is drawn -/
/-- behind some drawing: the pen goes on, all else stands -/
structure Dr (H H' : Hp) (d l : Addr) (ms : List Int) (n n' L' b : Int) : Prop where
  kp : Kp d H H'
  pn : Pen H' d l ms n' L'
  lo : n ≤ n'
  hi : n' ≤ n + b
theorem Dr.trans {H H1 H2 : Hp} {d l : Addr} {ms : List Int} {n n1 n2 L1 L2 b c : Int} (x : Dr H H1 d l ms n n1 L1 b) (y : Dr H1 H2 d l ms n1 n2 L2 c) : Dr H H2 d l ms n n2 L2 (b + c) :=
  ⟨x.kp.trans y.kp, y.pn, Int.le_trans x.lo y.lo, by have := x.hi; have := y.hi; omega⟩
theorem Dr.same {H H1 H2 : Hp} {d l : Addr} {ms : List Int} {n n1 L1 b : Int} (x : Dr H H1 d l ms n n1 L1 b) (s : Same H1 H2) : Dr H H2 d l ms n n1 L1 b :=
  ⟨x.kp.trans (Kp.of s), ⟨s _ _ x.pn.dc, s _ _ x.pn.ls, x.pn.n0, x.pn.l0⟩, x.lo, x.hi⟩
theorem Dr.wk {H H1 : Hp} {d l : Addr} {ms : List Int} {n n1 L1 b c : Int} (x : Dr H H1 d l ms n n1 L1 b) (h : b ≤ c) : Dr H H1 d l ms n n1 L1 c := ⟨x.kp, x.pn, x.lo, by have := x.hi; omega⟩
theorem Dr.refl {H : Hp} {d l : Addr} {ms : List Int} {n L : Int} (p : Pen H d l ms n L) : Dr H H d l ms n n L 0 := ⟨Kp.refl _ _, p, Int.le_refl _, by omega⟩
theorem pen_ne (l : Addr) (n L : Int) : pen l n L ≠ [] := by intro z; cases z
theorem Dr.rep {H H1 : Hp} {d l : Addr} {ms : List Int} {n n1 L L1 b : Int} (x : Dr H H1 d l ms n n1 L1 b) (p : Pen H d l ms n L) {k : Nat} {v : V} {t : PyData} (r : Rep H k v t) : Rep H1 k v t := r.keep p.dc (pen_ne _ _ _) x.kp
/-- one draw, read -/
theorem rd_dr {σ : L2.St} {H : Hp} {Q : VK} {i : Nat} {te : TE} {d l : Addr} {ms : List Int} {n L m : Int} (hσ : σ[i]? = some (some (.ref d))) (ht : ∀ Q' : VK, Q' (.int m) H → te σ H Q') (p : Pen H d l ms n L) (hn : n < 2 ^ 40) (h0 : 0 < m) (h1 : m < 1073741824)
    (h : ∀ (r n' L' : Int) (H' : Hp), 0 ≤ r → r < m → Dr H H' d l ms n n' L' 1 → Q (.int r) H') : tCall spDraw [] E0 (tCons (tVar i) (tCons te tNil)) σ H Q :=
  ⟨_, hσ, ht _ ⟨d, l, ms, n, L, m, rfl, p, hn, h0, h1, fun r n' L' H' r0 r1 a b q k => h r n' L' H' r0 r1 ⟨k, q, a, b⟩⟩⟩
def spPick : Sp := fun vs H Q _ => ∃ (d l : Addr) (ms : List Int) (n L : Int) (y : V), vs = [.ref d, y] ∧ Pen H d l ms n L ∧ n < 2 ^ 39 ∧
  ((∃ z : Str, y = .str z ∧ 0 < z.length ∧ z.length ≤ 1000 ∧ ∀ (c : Nat) (n' L' : Int) (H' : Hp), c ∈ z.cps.toList → Dr H H' d l ms n n' L' 1 → Q (.str ⟨#[c]⟩) H') ∨
   ∃ (a : Addr) (xs : List V), y = .ref a ∧ H a = some (.lst xs) ∧ 0 < xs.length ∧ xs.length ≤ 1000 ∧ ∀ (x : V) (n' L' : Int) (H' : Hp), x ∈ xs → Dr H H' d l ms n n' L' 1 → Q x H')
abbrev sPick : Stmt := top 28
theorem scPick : FnScope ["_law_held", "_law_some"] ["_law_held", "_law_some"] (defScope sPick) := ⟨rfl, rfl, rfl, by decide +kernel, rfl, by decide +kernel, by decide +kernel⟩
theorem atI_of {α : Type} {xs : List α} {r : Int} (h0 : 0 ≤ r) (h1 : r < (xs.length : Int)) : ∃ x, x ∈ xs ∧ atI xs r = some x ∧ xs[r.toNat]? = some x := by
  have hl : r.toNat < xs.length := by omega
  have e := atI_nat (List.getElem?_eq_getElem hl)
  rw [Int.toNat_of_nonneg h0] at e
  exact ⟨_, List.getElem_mem hl, e, List.getElem?_eq_getElem hl⟩
theorem ok_pick {f fD : Addr} {fd dD : FuncData} (F : Fun K "_law_pick" "_law_pick" sPick f fd) (GD : FnOk P w K mg pB CX0 1 fD dD ["_law_held", "_law_many_here"] spDraw) (mD : mg "_law_draw" = some (.ref fD)) (kD : PySem.W.keepIn K (.ref fD) = true) (bD : Binds K dD ["_law_held", "_law_many_here"] [])
    (mLen : mg "len" = none) : FnOk P w K mg pB CX0 2 f fd ["_law_held", "_law_some"] spPick := by
  refine F.ok scPick (fun vs H Q E h => ?_) (fun cdv A outer s H vs Q E hr h => ?_)
  · obtain ⟨d, l, ms, n, L, y, rfl, _⟩ := h
    rfl
  · obtain ⟨d, l, ms, n, L, y, rfl, p, hn, k⟩ := h
    refine ⟨_, pss_one (ps_ret (pe_ix ix_seq (pv 1) (pe_call GD hr rfl mD kD bD .nil pass0 (pa_cons (pv 0) (pa_cons (pe_callB call_len (by rfl) mLen PySem.boot_len (pa_cons (pv 1) pa_nil)) pa_nil))) (fun _ _ => rfl))), ?_⟩
    rcases k with ⟨z, rfl, z0, z1, k⟩ | ⟨a, xs, rfl, ha, z0, z1, k⟩
    · have ez : z.length = z.cps.toList.length := by simp [Str.length]
      have hz : z.length ≤ sizeLine := Nat.le_trans z1 (by decide)
      refine ⟨_, rfl, rd_dr (m := (z.length : Int)) rfl (fun _ h => ⟨_, rfl, _, z.length, rfl, ⟨hz, rfl⟩, h⟩) p (by omega) (by omega) (by omega) fun r n' L' H' r0 r1 x => ?_⟩
      obtain ⟨c, hcm, hc, _⟩ := atI_of (xs := z.cps.toList) r0 (by omega)
      exact .inr (.inr ⟨z, _, c, rfl, rfl, hz, hc, k c n' L' H' hcm x⟩)
    · refine ⟨_, rfl, rd_dr (m := (xs.length : Int)) rfl (fun _ h => ⟨_, rfl, _, xs.length, rfl, .inl ⟨_, SqL.of ha, rfl⟩, h⟩) p (by omega) (by omega) (by omega) fun r n' L' H' r0 r1 x => ?_⟩
      obtain ⟨y, hy, hc, _⟩ := atI_of (xs := xs) r0 r1
      have ha' := x.kp _ _ ha (ne_of ha p.dc (by intro z; cases z))
      exact .inl ⟨a, xs, _, y, rfl, rfl, SqL.of ha', hc, k y n' L' H' hy x⟩
end
end My

set_option Elab.async false
set_option linter.all false
set_option maxRecDepth 100000
set_option maxHeartbeats 4000000
namespace My
open PySem L2
theorem asg_n {te : TE} {i : Nat} {b : TS} {D : Ends} {σ : L2.St} {H : Hp} (h : te σ H fun x H1 => b D (σ.set i (some x)) H1) : tSeq (tAsg te (gName i)) b D σ H := h
theorem call_of {sp : Sp} {t : TA} {σ : L2.St} {H : Hp} {Q : VK} (h : t σ H fun vs H1 => sp (vs ++ []) H1 Q E0) : tCall sp [] E0 t σ H Q := h
section
variable {P : Program} {w : World} {K : PySem.W.Frag} {mg : Str → Option Value} {pB : Heap}
theorem Dr.upd {H H' : Hp} {d l D : Addr} {ms : List Int} {n n' L L' b : Int} {o : HO} (x : Dr H H' d l ms n n' L' b) (p : Pen H d l ms n L) (hD : H D = none) : Dr H (L2.upd H' D o) d l ms n n' L' b :=
  ⟨fun c u e nc => by rw [upd_ne (ne_of_none e hD)]; exact x.kp c u e nc, ⟨by rw [upd_ne (ne_of_none p.dc hD)]; exact x.pn.dc, by rw [upd_ne (ne_of_none p.ls hD)]; exact x.pn.ls, x.pn.n0, x.pn.l0⟩, x.lo, x.hi⟩
theorem Pen.same {H H' : Hp} {d l : Addr} {ms : List Int} {n L : Int} (p : Pen H d l ms n L) (s : Same H H') : Pen H' d l ms n L := ⟨s _ _ p.dc, s _ _ p.ls, p.n0, p.l0⟩
theorem join0_tl (cs : List Nat) : TL.tl (Txt.join "" (cs.map fun c => (⟨#[c]⟩ : Str))) = cs := by
  rw [TL.join_eq, TL.tl_join, show TL.tl ("" : Str) = [] by decide +kernel]
  have h : ∀ ps : List (List Nat), TL.joinL [] ps = ps.flatten := by
    intro ps
    induction ps with
    | nil => rfl
    | cons p ps ih =>
      cases ps with
      | nil => simp [TL.joinL]
      | cons q r =>
        show p ++ ([] ++ TL.joinL [] (q :: r)) = _
        rw [ih, List.nil_append, List.flatten_cons (l := p)]
  rw [h, List.map_map]
  induction cs with
  | nil => rfl
  | cons c cs ih =>
    rw [List.map_cons, List.flatten_cons, ih]
    rfl
theorem join0_len (cs : List Nat) : (Txt.join "" (cs.map fun c => (⟨#[c]⟩ : Str))).length = cs.length := by
  rw [TL.len_tl, join0_tl]
theorem sum_ones (cs : List Nat) : ((cs.map fun c => (⟨#[c]⟩ : Str)).map (·.length)).sum = cs.length := by
  induction cs with
  | nil => rfl
  | cons c cs ih =>
    rw [List.map_cons, List.map_cons, List.sum_cons, ih, List.length_cons]
    show 1 + cs.length = _
    omega
def wd8 : List Str := ["say", "kept", "none", "a", "z", "abcdefgh", "zzzzzzzz", "post"]
theorem wd8_wd : ∀ x ∈ wd8, isWd x = true := by decide +kernel
theorem wd8_len : ∀ x ∈ wd8, x.length ≤ 8 := by decide +kernel
def spWord : Sp := fun vs H Q _ => ∃ (d l : Addr) (ms : List Int) (n L : Int), vs = [.ref d] ∧ Pen H d l ms n L ∧ n < 2 ^ 38 ∧ ∀ (x : Str) (n' L' : Int) (H' : Hp), x.length ≤ 8 → isWd x = true → Dr H H' d l ms n n' L' 20 → Q (.str x) H'
abbrev sWord : Stmt := top 29
theorem scWord : FnScope ["_law_held", "_law_some", "_law_letters", "_law_drawn", "_law_k"] ["_law_held"] (defScope sWord) := ⟨rfl, rfl, rfl, by decide +kernel, rfl, by decide +kernel, by decide +kernel⟩
theorem ok_word {f fD fP : Addr} {fd dD dP : FuncData} (F : Fun K "_law_word" "_law_word" sWord f fd) (GD : FnOk P w K mg pB CX0 1 fD dD ["_law_held", "_law_many_here"] spDraw) (mD : mg "_law_draw" = some (.ref fD)) (kD : PySem.W.keepIn K (.ref fD) = true) (bD : Binds K dD ["_law_held", "_law_many_here"] [])
    (GP : FnOk P w K mg pB CX0 2 fP dP ["_law_held", "_law_some"] spPick) (mP : mg "_law_pick" = some (.ref fP)) (kP : PySem.W.keepIn K (.ref fP) = true) (bP : Binds K dP ["_law_held", "_law_some"] []) (mR : mg "range" = none) :
    FnOk P w K mg pB CX0 3 f fd ["_law_held"] spWord := by
  refine F.ok scWord (fun vs H Q E h => ?_) (fun cdv A outer s H vs Q E hr h => ?_)
  · obtain ⟨d, l, ms, n, L, rfl, _⟩ := h
    rfl
  · obtain ⟨d, l, ms, n, L, rfl, p, hn, k⟩ := h
    have nd := scWord.nd
    have hr1 : Room 1 _ := hr.mono (by decide)
    refine ⟨_, pss_cons (ps_set (i := 1) nd rfl (Or.inl rfl) (pe_lst (pa_cons pe_str (pa_cons pe_str (pa_cons pe_str (pa_cons pe_str (pa_cons pe_str (pa_cons pe_str (pa_cons pe_str (pa_cons pe_str pa_nil))))))))))
      (pss_cons (ps_set (i := 2) nd rfl (Or.inr rfl) pe_str)
      (pss_cons (ps_set (i := 3) nd rfl (Or.inl rfl) (pe_join pe_str
        (pe_lc (own := [("_law_k", 4)]) (g := gName 4) (tt := tYes) (te := tCall spPick [] E0 (tCons (tVar 0) (tCons (tVar 2) tNil))) rfl nd
          (pi_range1 rfl mR (pa_cons (pe_op op_add pe_int (pe_call GD hr1 rfl mD kD bD .nil pass0 (pa_cons (pv 0) (pa_cons pe_int pa_nil)))) pa_nil))
          (blkOk_by (N := ["_law_held", "_law_some", "_law_letters", "_law_drawn", "_law_k"]) (sc := defScope sWord) (by decide +kernel)) (fun _ _ _ _ _ => pg_name (i := 4) nd rfl (Or.inl rfl) (Or.inr rfl)) (fun _ _ _ _ _ => pts_nil)
          (fun _ _ _ _ _ => pe_call GP hr rfl mP kP bP .nil pass0 (pa_cons (pv 0) (pa_cons (pv 2) pa_nil))))))
      (pss_one (ps_ret (pe_ix ix_list (pe_lst (pa_cons (pv 3) (pa_cons (pe_call GP hr rfl mP kP bP .nil pass0 (pa_cons (pv 0) (pa_cons (pv 1) pa_nil))) pa_nil)))
        (pe_call GD hr1 rfl mD kD bD .nil pass0 (pa_cons (pv 0) (pa_cons pe_int pa_nil))) (fun _ _ => rfl)))))), ?_⟩
    refine asg_n (lst_of ⟨by show 8 ≤ sizeLine; decide, fun ls hls => ?_⟩)
    have s1 : Same H (upd H ls (.lst (wd8.map V.str))) := Same.new (Same.refl _) hls
    have c1 : (upd H ls (.lst (wd8.map V.str))) ls = some (.lst (wd8.map V.str)) := upd_same
    have p1 := p.same s1
    change tSeq _ _ _ _ (upd H ls (.lst (wd8.map V.str)))
    generalize upd H ls (.lst (wd8.map V.str)) = H1 at s1 c1 p1 ⊢
    refine asg_n (te := tC _) (asg_n ?_)
    refine ⟨⟨_, rfl⟩, rd_dr (m := 8) rfl (fun _ h => h) p1 (by omega) (by decide) (by decide) fun r n1 L1 H2 r0 r1 x1 => ⟨_, _, rfl, rfl, _, rfl, by omega, by omega, fun D hD => ?_⟩⟩
    refine lc_range (lo := 0) (n := (1 + r).toNat) (fun i H' => ∃ (n' L' : Int) (cs : List Nat), Dr H2 H' d l ms n1 n' L' i ∧ (cs.length = i ∧ ∀ c ∈ cs, c ∈ letters) ∧ H' D = some (.lst ((cs.map fun c => (⟨#[c]⟩ : Str)).map V.str))) ⟨n1, L1, [], (Dr.refl x1.pn).same (Same.new (Same.refl _) hD), ⟨rfl, fun c h => nomatch h⟩, upd_same⟩ (fun i H' hi p => ?_) (fun H' p => ?_)
    · obtain ⟨n', L', cs, x, ⟨hc, hcl⟩, hD'⟩ := p
      have := x1.hi
      have := x.hi
      refine ⟨rfl, yes_of (iteT (call_of ⟨_, rfl, _, rfl, d, l, ms, n', L', _, rfl, x.pn, by omega, .inl ⟨_, rfl, by decide +kernel, by decide +kernel, fun c n2 L2 H3 hcm y => ?_⟩⟩))⟩
      have hD3 := y.kp _ _ hD' (ne_of hD' x.pn.dc (by intro z; cases z))
      refine ⟨_, hD3, ?_, n2, L2, cs ++ [c], ?_, ⟨by rw [List.length_append, hc]; rfl, fun q hq => (List.mem_append.mp hq).elim (hcl q) fun z => by rw [List.mem_singleton.mp z]; exact hcm⟩, ?_⟩
      · rw [List.length_map, List.length_map]
        exact Nat.lt_of_le_of_lt (show cs.length ≤ 10 by omega) (by decide)
      · exact ((x.trans y).upd x1.pn hD).wk (by omega)
      · rw [upd_same]; simp
    · obtain ⟨n', L', cs, x, ⟨hc, hcl⟩, hD'⟩ := p
      have := x1.hi
      have := x.hi
      refine ⟨_, D, _, rfl, rfl, .inl (SqL.of hD'), ?_, ?_⟩
      · rw [sum_ones, List.length_map, show Str.length "" = 0 by decide +kernel]; omega
      · have hlen := join0_len cs
        have hwd : isWd (Txt.join (Str.ofString "") (cs.map fun c => (⟨#[c]⟩ : Str))) = true := by
          unfold isWd
          rw [Bool.and_eq_true]
          refine ⟨decide_eq_true ⟨by rw [hlen]; omega, by rw [hlen]; omega⟩, List.all_eq_true.mpr fun c hc' => decide_eq_true (hcl c ?_)⟩
          have e := join0_tl cs
          rw [← e]
          exact hc'
        generalize Txt.join (Str.ofString "") (cs.map fun c => (⟨#[c]⟩ : Str)) = wdr at hlen hwd ⊢
        have xx := x1.trans x
        have c2 : H' ls = some (.lst (wd8.map V.str)) := xx.kp _ _ c1 (ne_of c1 p1.dc (by intro z; cases z))
        refine ⟨_, rfl, call_of ⟨_, rfl, _, rfl, d, l, ms, n', L', _, rfl, x.pn, by omega, .inr ⟨ls, _, rfl, c2, by decide, by decide, fun y n3 L3 H4 hy x4 => ?_⟩⟩⟩
        obtain ⟨yw, hyw, rfl⟩ := List.mem_map.mp hy
        refine ⟨by show 2 ≤ sizeLine; decide, fun q hq => ?_⟩
        have s5 : Same H4 (upd H4 q (.lst [.str wdr, .str yw])) := Same.new (Same.refl _) hq
        have := x4.hi
        refine rd_dr (m := 2) rfl (fun _ h => h) (x4.pn.same s5) (by omega) (by decide) (by decide) fun r6 n6 L6 H6 r60 r61 x6 => ?_
        have cq : H6 q = some (.lst [.str wdr, .str yw]) := x6.kp _ _ upd_same (ne_of upd_same (x4.pn.same s5).dc (by intro z; cases z))
        have tot : Dr H H6 d l ms n n6 L6 20 := ((((Dr.refl p).same s1).trans xx).trans ((x4.same s5).trans x6)).wk (by omega)
        obtain ⟨v, hv, hat, _⟩ := atI_of (xs := [V.str wdr, V.str yw]) r60 r61
        refine ⟨q, _, _, v, rfl, rfl, SqL.of cq, hat, ?_⟩
        rcases List.mem_cons.mp hv with rfl | hv
        · exact k wdr n6 L6 H6 (by omega) hwd tot
        · rw [List.mem_singleton.mp hv]
          exact k yw n6 L6 H6 (wd8_len yw hyw) (wd8_wd yw hyw) tot
end
end My

set_option Elab.async false
set_option linter.all false
set_option maxRecDepth 100000
set_option maxHeartbeats 4000000
namespace My
open PySem L2
theorem nxt_of {a b : TS} {D : Ends} {r : VK} {k c : L2.St → Hp → Prop} {σ : L2.St} {H : Hp} (h : tSeq a b D σ H) : tNext { nx := tSeq a b D, rt := r, bk := k, ct := c } σ H := h
section
variable {P : Program} {w : World} {K : PySem.W.Frag} {mg : Str → Option Value} {pB : Heap}
theorem base_mono2 {H H' : Hp} {T T' : V → List PyData → Prop} {v : V} {d : PyData} (hl : ∀ a xs, H a = some (.lst xs) → ∃ xs', H' a = some (.lst xs')) (hd : ∀ a, H a = some (.dK []) → H' a = some (.dK [])) (ht : ∀ ds, T v ds → T' v ds)
    (h : base H T v d) : base H' T' v d := by
  cases d with
  | none => exact h
  | bool b => exact h
  | int i => exact h
  | str x => exact h
  | list ds =>
    obtain ⟨a, xs, e, q⟩ := h
    obtain ⟨xs', q'⟩ := hl a xs q
    exact ⟨a, xs', e, q'⟩
  | dict kvs =>
    obtain ⟨a, e, q⟩ := h
    exact ⟨a, e, hd a q⟩
  | tuple ds => exact ht ds h
/-- a list may grow -/
theorem Rep.updL {H : Hp} {D : Addr} {ys zs : List V} (hD : H D = some (.lst ys)) : ∀ {n : Nat} {v : V} {x : PyData}, Rep H n v x → Rep (L2.upd H D (.lst zs)) n v x := by
  have kl : ∀ a xs, H a = some (.lst xs) → ∃ xs', (L2.upd H D (.lst zs)) a = some (.lst xs') := fun a xs e => by
    by_cases h : a = D
    · exact ⟨zs, by rw [h, upd_same]⟩
    · exact ⟨xs, by rw [upd_ne h]; exact e⟩
  have kd : ∀ a, H a = some (.dK []) → (L2.upd H D (.lst zs)) a = some (.dK []) := fun a e => by
    rw [upd_ne (ne_of e hD (by intro z; cases z))]; exact e
  intro n
  induction n with
  | zero => exact fun h => base_mono2 kl kd (fun _ z => z) h
  | succ n ih => exact fun h => base_mono2 kl kd (fun ds ⟨a, xs, e, q, p⟩ => ⟨a, xs, e, by rw [upd_ne (ne_of q hD (by intro z; cases z))]; exact q, Paired.mapP p fun _ _ z => ih z⟩) h
def bW : Nat → Int
  | 0 => 30
  | k + 1 => 30 + 20 * bW k
theorem bW_pos : ∀ k, 30 ≤ bW k
  | 0 => by decide
  | k + 1 => by have := bW_pos k; rw [bW]; omega
def mny (k : Nat) : Nat := if k = 1 then 20 else 3
def wS : Nat → Nat
  | 0 => 9
  | k + 1 => 9 + mny (k + 1) * wS k
theorem wS_9 : ∀ k, 9 ≤ wS k
  | 0 => by decide
  | k + 1 => by rw [wS]; omega
def spWor (k : Nat) : Sp := fun vs H Q _ => ∃ (d l : Addr) (ms : List Int) (n L : Int), vs = [.ref d, .int (k : Int)] ∧ Pen H d l ms n L ∧ n + bW k ≤ 2 ^ 37 ∧
  ∀ (v : V) (x : PyData) (n' L' : Int) (H' : Hp), Rep H' k v x → szD x ≤ wS k → isW k x = true → Dr H H' d l ms n n' L' (bW k) → Q v H'
def spPrevW : Nat → Sp
  | 0 => spBot
  | k + 1 => spWor k
theorem rep_i {H : Hp} {k : Nat} (i : Int) : Rep H k (.int i) (.int i) := by cases k <;> rfl
theorem rep_s {H : Hp} {k : Nat} (x : Str) : Rep H k (.str x) (.str x) := by cases k <;> rfl
theorem rep_n {H : Hp} {k : Nat} : Rep H k .non .none := by cases k <;> rfl
theorem rep_t {H : Hp} {k : Nat} {a : Addr} {xs : List V} {ds : List PyData} (h : H a = some (.tup xs)) (p : Paired (Rep H k) xs ds) : Rep H (k + 1) (.ref a) (.tuple ds) := ⟨a, xs, rfl, h, p⟩
abbrev sWor : Stmt := top 30
theorem scWor : FnScope ["_law_held", "_law_within", "_law_lot", "_law_many_here", "_law_k"] ["_law_held", "_law_within"] (defScope sWor) := ⟨rfl, rfl, rfl, by decide +kernel, rfl, by decide +kernel, by decide +kernel⟩
theorem step_wor {f fD fV : Addr} {fd dD dV : FuncData} (F : Fun K "_law_worth" "_law_worth" sWor f fd) (k : Nat) (G : FnOk P w K mg pB CX0 (k + 3) f fd ["_law_held", "_law_within"] (spPrevW k)) (mG : mg "_law_worth" = some (.ref f)) (bG : Binds K fd ["_law_held", "_law_within"] [])
    (GD : FnOk P w K mg pB CX0 1 fD dD ["_law_held", "_law_many_here"] spDraw) (mD : mg "_law_draw" = some (.ref fD)) (kD : PySem.W.keepIn K (.ref fD) = true) (bD : Binds K dD ["_law_held", "_law_many_here"] [])
    (GV : FnOk P w K mg pB CX0 3 fV dV ["_law_held"] spWord) (mV : mg "_law_word" = some (.ref fV)) (kV : PySem.W.keepIn K (.ref fV) = true) (bV : Binds K dV ["_law_held"] [])
    (mInt : mg "int" = none) (mT : mg "tuple" = none) (mR : mg "range" = none) : FnOk P w K mg pB CX0 (k + 4) f fd ["_law_held", "_law_within"] (spWor k) := by
  refine F.ok scWor (fun vs H Q E h => ?_) (fun cdv A outer s H vs Q E hr h => ?_)
  · obtain ⟨d, l, ms, n, L, rfl, _⟩ := h
    rfl
  · obtain ⟨d, l, ms, n, L, rfl, p, hn, kont⟩ := h
    have nd := scWor.nd
    have hr1 : Room 1 _ := hr.mono (by omega)
    have hr3 : Room 3 _ := hr.mono (by omega)
    have hb := bW_pos k
    refine ⟨_, pss_cons (ps_set (i := 2) nd rfl (Or.inl rfl) (pe_call GD hr1 rfl mD kD bD .nil pass0 (pa_cons (pv 0) (pa_cons (pe_op op_add pe_int (pe_callTy call_int1 (by rfl) mInt (by decide +kernel) (pa_cons (pe_cmpR op_gt (pv 1) pe_int (nomark _)) pa_nil))) pa_nil))))
      (pss_cons (ps_if (pt_cmpR op_lt (pv 2) pe_int (nomark _)) (pss_one (ps_ret (pe_ix ix_list (pe_lst (pa_cons pe_non (pa_cons (pe_call GV hr3 rfl mV kV bV .nil pass0 (pa_cons (pv 0) pa_nil)) pa_nil))) (pv 2) (fun _ _ => rfl)))) pss_nil)
      (pss_cons (ps_if (pt_cmpR op_eq (pv 2) pe_int (nomark _)) (pss_one (ps_ret (pe_op op_sub (pe_call GD hr1 rfl mD kD bD .nil pass0 (pa_cons (pv 0) (pa_cons pe_int pa_nil))) pe_int))) pss_nil)
      (pss_cons (ps_if (pt_cmpR op_eq (pv 2) pe_int (nomark _)) (pss_one (ps_ret (pe_ix ix_list (pe_lst (pa_cons pe_int (pa_cons (pe_un un_neg pe_int) (pa_cons pe_int (pa_cons (pe_un un_neg pe_int) pa_nil)))))
          (pe_call GD hr1 rfl mD kD bD .nil pass0 (pa_cons (pv 0) (pa_cons pe_int pa_nil))) (fun _ _ => rfl)))) pss_nil)
      (pss_cons (ps_set (i := 3) nd rfl (Or.inl rfl) (pe_ix ix_list (pe_lst (pa_cons (pe_call GD hr1 rfl mD kD bD .nil pass0 (pa_cons (pv 0) (pa_cons pe_int pa_nil))) (pa_cons pe_int pa_nil)))
          (pe_callTy call_int1 (by rfl) mInt (by decide +kernel) (pa_cons (pe_and (pe_cmpR op_eq (pv 1) pe_int (nomark _)) (pe_one (pe_cmpR op_eq (pe_call GD hr1 rfl mD kD bD .nil pass0 (pa_cons (pv 0) (pa_cons pe_int pa_nil))) pe_int (nomark _)))) pa_nil)) (fun _ _ => rfl)))
      (pss_one (ps_ret (pe_tupleOf (by rfl) mT
        (pe_lc (own := [("_law_k", 4)]) (g := gName 4) (tt := tYes) (te := tCall (spPrevW k) [] E0 (tCons (tVar 0) (tCons (tOp (rI0 fun i j => .int (i - j)) (tVar 1) (tC (.int 1))) tNil))) rfl nd
          (pi_range1 rfl mR (pa_cons (pv 3) pa_nil))
          (blkOk_by (N := ["_law_held", "_law_within", "_law_lot", "_law_many_here", "_law_k"]) (sc := defScope sWor) (by decide +kernel)) (fun _ _ _ _ _ => pg_name (i := 4) nd rfl (Or.inl rfl) (Or.inr rfl)) (fun _ _ _ _ _ => pts_nil)
          (fun _ _ _ _ _ => pe_call G hr rfl mG F.kp bG .nil pass0 (pa_cons (pv 0) (pa_cons (pe_op op_sub (pv 1) pe_int) pa_nil))))))))))), ?_⟩
    refine asg_n (rd_dr rfl (fun _ h => ⟨_, rfl, _, _, rfl, rfl, .inr ⟨_, rfl, _, _, rfl, rfl, h⟩⟩) p (by omega) (by split <;> omega) (by split <;> omega) fun lot n1 L1 H1 r0 r1 x1 => ?_)
    have h1 := x1.hi
    have leafK : ∀ (v : V) (t : PyData) (n' L' : Int) (H' : Hp), Rep H' k v t → szD t ≤ 9 → isW k t = true → Dr H1 H' d l ms n1 n' L' 29 → Q v H' := fun v t n' L' H' hr hs hw x => kont v t n' L' H' hr (Nat.le_trans hs (wS_9 k)) hw ((x1.trans x).wk (by omega))
    refine ⟨_, rfl, _, _, rfl, rfl, _, rfl, ite2 (fun c => ?_) (fun c => ?_)⟩
    · have c := of_decide_eq_true c
      refine ⟨_, rfl, d, l, ms, n1, L1, rfl, x1.pn, by omega, fun xw n2 L2 H2 hx hxw x2 => ⟨by show 2 ≤ sizeLine; decide, fun q hq => ?_⟩⟩
      have s3 : Same H2 (upd H2 q (.lst [.non, .str xw])) := Same.new (Same.refl _) hq
      obtain ⟨v, hv, hat, _⟩ := atI_of (xs := [V.non, V.str xw]) r0 c
      refine ⟨_, rfl, q, _, _, v, rfl, rfl, SqL.of upd_same, hat, ?_⟩
      rcases List.mem_cons.mp hv with rfl | hv
      · exact leafK .non .none n2 L2 _ rep_n (by decide) (by rw [isW_leaf (by intro ds z; cases z)]; rfl) ((x2.same s3).wk (by omega))
      · rw [List.mem_singleton.mp hv]
        exact leafK (.str xw) (.str xw) n2 L2 _ (rep_s xw) (by rw [szD]; omega) (by rw [isW_leaf (by intro ds z; cases z)]; exact hxw) ((x2.same s3).wk (by omega))
    refine ⟨_, rfl, rfl, _, rfl, ite2 (fun c2 => ?_) (fun c2 => ?_)⟩
    · refine rd_dr (m := 2001) rfl (fun _ h => h) x1.pn (by omega) (by decide) (by decide) fun r n2 L2 H2 q0 q1 x2 => ⟨_, _, rfl, rfl, ?_⟩
      exact leafK _ (.int _) n2 L2 H2 (rep_i _) (show 1 ≤ 9 by decide) (by rw [isW_leaf (by intro ds z; cases z)]; exact decide_eq_true ⟨by omega, by omega⟩) (x2.wk (by decide))
    refine ⟨_, rfl, rfl, _, rfl, ite2 (fun c3 => ?_) (fun c3 => ?_)⟩
    · refine ⟨_, rfl, _, rfl, by show 4 ≤ sizeLine; decide, fun q hq => ?_⟩
      have s2 : Same H1 (upd H1 q (.lst [.int 1000000000, .int (-1000000000), .int 0, .int (-1)])) := Same.new (Same.refl _) hq
      refine rd_dr (m := 4) rfl (fun _ h => h) (x1.pn.same s2) (by omega) (by decide) (by decide) fun r n2 L2 H2 q0 q1 x2 => ?_
      have cq : H2 q = some (.lst [.int 1000000000, .int (-1000000000), .int 0, .int (-1)]) := x2.kp _ _ upd_same (ne_of upd_same (x1.pn.same s2).dc (by intro z; cases z))
      obtain ⟨v, hv, hat, _⟩ := atI_of (xs := [V.int 1000000000, V.int (-1000000000), V.int 0, V.int (-1)]) q0 q1
      refine ⟨q, _, _, v, rfl, rfl, SqL.of cq, hat, ?_⟩
      have hx : ∃ i : Int, v = .int i ∧ -1000000000 ≤ i ∧ i ≤ 1000000000 := by
        simp only [List.mem_cons, List.mem_nil_iff, or_false] at hv
        rcases hv with rfl | rfl | rfl | rfl <;> exact ⟨_, rfl, by decide, by decide⟩
      obtain ⟨i, rfl, hi1, hi2⟩ := hx
      exact leafK _ (.int i) n2 L2 H2 (rep_i i) (show 1 ≤ 9 by decide) (by rw [isW_leaf (by intro ds z; cases z)]; exact decide_eq_true ⟨hi1, hi2⟩) ((((Dr.refl x1.pn).same s2).trans x2).wk (by decide))
    have hk : 0 < k := by
      rcases Nat.eq_zero_or_pos k with z | z
      · subst z
        exfalso
        have c' : ¬ lot < 2 := fun z => c (decide_eq_true z)
        have c2 : ¬ lot = 2 := fun z => c2 (decide_eq_true (by rw [z]))
        have c3 : ¬ lot = 3 := fun z => c3 (decide_eq_true (by rw [z]))
        rw [if_neg (by simp)] at r1
        omega
      · exact z
    obtain ⟨j, rfl⟩ : ∃ j, k = j + 1 := ⟨k - 1, by omega⟩
    have hbj : bW (j + 1) = 30 + 20 * bW j := rfl
    have hbj0 := bW_pos j
    refine nxt_of (asg_n ?_)
    refine rd_dr (m := 4) rfl (fun _ h => h) x1.pn (by omega) (by decide) (by decide) fun r4 n2 L2 H2 q0 q1 x2 => ⟨by show 2 ≤ sizeLine; decide, fun q hq => ?_⟩
    have s3 : Same H2 (upd H2 q (.lst [.int r4, .int 20])) := Same.new (Same.refl _) hq
    have h2 := x2.hi
    have rest : ∀ (b : Bool) (n3 L3 : Int) (H3 : Hp), (b = true → j = 0) → Dr (upd H2 q (.lst [.int r4, .int 20])) H3 d l ms n2 n3 L3 1 →
        ∃ many : Nat, many ≤ mny (j + 1) ∧ atI [V.int r4, V.int 20] (if b = true then 1 else 0) = some (V.int (many : Int)) ∧ H3 q = some (.lst [.int r4, .int 20]) := by
      intro b n3 L3 H3 hb x3
      have cq : H3 q = some (.lst [.int r4, .int 20]) := x3.kp _ _ upd_same (ne_of upd_same (x2.pn.same s3).dc (by intro z; cases z))
      cases b with
      | true =>
        refine ⟨20, ?_, rfl, cq⟩
        rw [hb rfl]; decide
      | false =>
        refine ⟨r4.toNat, ?_, ?_, cq⟩
        · unfold mny
          split <;> omega
        · rw [Int.toNat_of_nonneg q0]; rfl
    have fin : ∀ (many : Nat) (n3 L3 : Int) (H3 : Hp), many ≤ mny (j + 1) → Dr (upd H2 q (.lst [.int r4, .int 20])) H3 d l ms n2 n3 L3 1 →
        tThen (tLc (iRng1 (tCons (tVar 3) tNil)) (gName 4) tYes (tCall (spPrevW (j + 1)) [] E0 (tCons (tVar 0) (tCons (tOp (rI0 fun i j => V.int (i - j)) (tVar 1) (tC (V.int 1))) tNil))) [4]) (kTup K)
          [some (.ref d), some (.int ((j + 1 : Nat) : Int)), some (.int lot), some (.int (many : Int)), none] H3 Q := by
      intro many n3 L3 H3 hm x3
      have hm20 : many ≤ 20 := Nat.le_trans hm (by unfold mny; split <;> decide)
      have h3 := x3.hi
      refine ⟨_, rfl, _, rfl, by omega, by omega, fun D hD => ?_⟩
      refine lc_range (lo := 0) (n := (many : Int).toNat) (fun i H' => ∃ (n' L' : Int) (ys : List V) (ts : List PyData), Dr H3 H' d l ms n3 n' L' ((i : Int) * bW j) ∧ ys.length = i ∧ H' D = some (.lst ys) ∧ Paired (Rep H' j) ys ts ∧ szL ts ≤ i * wS j ∧ ∀ t ∈ ts, isW j t = true)
        ⟨n3, L3, [], [], ((Dr.refl x3.pn).same (Same.new (Same.refl _) hD)).wk (by simp), rfl, upd_same, .nil, by simp [szL], fun t h => nomatch h⟩ (fun i H' hi p => ?_) (fun H' p => ?_)
      · obtain ⟨n', L', ys, ts, x, hl, hD', hp, hs, hws⟩ := p
        have h4 := x.hi
        have hi20 : i < 20 := by omega
        have hmul : (i : Int) * bW j ≤ 19 * bW j := Int.mul_le_mul_of_nonneg_right (by omega) (by omega)
        refine ⟨rfl, yes_of (iteT (call_of ⟨_, rfl, _, rfl, _, _, rfl, rfl, d, l, ms, n', L', ?_, x.pn, by omega, fun v t n5 L5 H5 hr5 hs5 hw5 x5 => ?_⟩))⟩
        · show [V.ref d, V.int (((j + 1 : Nat) : Int) - 1)] = [V.ref d, V.int (j : Int)]
          rw [show (((j + 1 : Nat) : Int) - 1) = (j : Int) by omega]
        · have hD5 := x5.kp _ _ hD' (ne_of hD' x.pn.dc (by intro z; cases z))
          refine ⟨ys, hD5, Nat.lt_of_le_of_lt (show ys.length ≤ 20 by omega) (by decide), n5, L5, ys ++ [v], ts ++ [t], ?_, by rw [List.length_append, hl]; rfl, upd_same, ?_, ?_, fun q hq => (List.mem_append.mp hq).elim (hws q) fun z => by rw [List.mem_singleton.mp z]; exact hw5⟩
          · refine ((x.trans x5).upd x3.pn hD).wk ?_
            rw [show (((i + 1 : Nat) : Int)) = (i : Int) + 1 by omega, Int.add_mul, Int.one_mul]
            exact Int.le_refl _
          · exact Paired.snoc (Paired.mapP hp fun _ _ z => (x5.rep x.pn z).updL hD5) (hr5.updL hD5)
          · rw [szL_app, szL, szL, Nat.succ_mul]; omega
      · obtain ⟨n', L', ys, ts, x, hl, hD', hp, hs, hws⟩ := p
        have h4 := x.hi
        have hmm : ((many : Int).toNat : Int) = (many : Int) := by omega
        refine .inl ⟨D, ys, rfl, SqL.of hD', fun tq htq => ?_⟩
        have s7 : Same H' (upd H' tq (.tup ys)) := Same.new (Same.refl _) htq
        refine kont (.ref tq) (.tuple ts) n' L' _ (rep_t upd_same (Paired.mapP hp fun _ _ z => z.same s7)) ?_ (by rw [isW, Bool.and_eq_true]; exact ⟨decide_eq_true (by have := Paired.length hp; omega), List.all_eq_true.mpr hws⟩) ?_
        · rw [szD, wS]
          have : (many : Int).toNat * wS j ≤ mny (j + 1) * wS j := Nat.mul_le_mul_right _ (by omega)
          omega
        · have hmul : ((many : Int).toNat : Int) * bW j ≤ 20 * bW j := Int.mul_le_mul_of_nonneg_right (by omega) (by omega)
          exact ((x1.trans ((x2.same s3).trans (x3.trans x))).same s7).wk (by omega)
    refine ⟨_, rfl, rfl, _, rfl, ite2 (fun c4 => ?_) (fun c4 => ?_)⟩
    · have hj : j = 0 := by
        have := V.int.inj (of_decide_eq_true c4)
        omega
      refine rd_dr (m := 9) rfl (fun _ h => h) (x2.pn.same s3) (by omega) (by decide) (by decide) fun r9 n3 L3 H3 u0 u1 x3 => ⟨rfl, ?_⟩
      obtain ⟨many, hm, hat, cq⟩ := rest (decide (V.int r9 = V.int 0)) n3 L3 H3 (fun _ => hj) x3
      exact .inr ⟨_, rfl, q, _, _, _, rfl, rfl, SqL.of cq, hat, fin many n3 L3 H3 hm x3⟩
    · have x3 : Dr (upd H2 q (.lst [.int r4, .int 20])) (upd H2 q (.lst [.int r4, .int 20])) d l ms n2 n2 L2 1 := (Dr.refl (x2.pn.same s3)).wk (by decide)
      obtain ⟨many, hm, hat, cq⟩ := rest false n2 L2 _ (fun z => by cases z) x3
      exact .inr ⟨_, rfl, q, _, _, _, rfl, rfl, SqL.of cq, hat, fin many n2 L2 _ hm x3⟩
theorem ok_wor {f fD fV : Addr} {fd dD dV : FuncData} (F : Fun K "_law_worth" "_law_worth" sWor f fd) (mG : mg "_law_worth" = some (.ref f)) (bG : Binds K fd ["_law_held", "_law_within"] [])
    (GD : FnOk P w K mg pB CX0 1 fD dD ["_law_held", "_law_many_here"] spDraw) (mD : mg "_law_draw" = some (.ref fD)) (kD : PySem.W.keepIn K (.ref fD) = true) (bD : Binds K dD ["_law_held", "_law_many_here"] [])
    (GV : FnOk P w K mg pB CX0 3 fV dV ["_law_held"] spWord) (mV : mg "_law_word" = some (.ref fV)) (kV : PySem.W.keepIn K (.ref fV) = true) (bV : Binds K dV ["_law_held"] [])
    (mInt : mg "int" = none) (mT : mg "tuple" = none) (mR : mg "range" = none) : ∀ k, FnOk P w K mg pB CX0 (k + 4) f fd ["_law_held", "_law_within"] (spWor k)
  | 0 => step_wor F 0 ok_bot mG bG GD mD kD bD GV mV kV bV mInt mT mR
  | k + 1 => step_wor F (k + 1) (ok_wor F mG bG GD mD kD bD GV mV kV bV mInt mT mR k) mG bG GD mD kD bD GV mV kV bV mInt mT mR
end
end My

set_option Elab.async false
set_option linter.all false
set_option maxRecDepth 100000
set_option maxHeartbeats 4000000
namespace My
open PySem L2
section
variable {P : Program} {w : World} {K : PySem.W.Frag} {mg : Str → Option Value} {pB : Heap} {σ : L2.St} {H : Hp} {Q : VK} {x y : V}
theorem cons_c {v : V} {tr : TA} {σ : L2.St} {H : Hp} {Q : List V → Hp → Prop} (h : tr σ H fun xs H2 => Q (v :: xs) H2) : tCons (tC v) tr σ H Q := h
theorem rdT0 (h : ∀ p H', Same H H' → H' p = some (.tup []) → Q (.ref p) H') : tTup tNil σ H Q := ⟨by show 0 ≤ sizeLine; decide, fun t ht => h t _ (Same.new (Same.refl _) ht) upd_same⟩
theorem rdT1 (h : ∀ p H', Same H H' → H' p = some (.tup [x]) → Q (.ref p) H') : tTup (tCons (tC x) tNil) σ H Q := ⟨by show 1 ≤ sizeLine; decide, fun t ht => h t _ (Same.new (Same.refl _) ht) upd_same⟩
theorem rdT2 (h : ∀ p H', Same H H' → H' p = some (.tup [x, y]) → Q (.ref p) H') : tTup (tCons (tC x) (tCons (tC y) tNil)) σ H Q := ⟨by show 2 ≤ sizeLine; decide, fun t ht => h t _ (Same.new (Same.refl _) ht) upd_same⟩
theorem rdTT (h : ∀ q p H', Same H H' → H' q = some (.tup [x]) → H' p = some (.tup [.ref q]) → Q (.ref p) H') : tTup (tCons (tTup (tCons (tC x) tNil)) tNil) σ H Q :=
  rdT1 (σ := σ) (Q := fun z H1 => ([z] : List V).length ≤ sizeLine ∧ ∀ p, H1 p = none → Q (.ref p) (upd H1 p (.tup [z]))) fun q H1 s1 e1 => ⟨by show 1 ≤ sizeLine; decide, fun p hp => h q p _ (Same.new s1 hp) ((Same.new (Same.refl _) hp) _ _ e1) upd_same⟩
theorem rdL0 (h : ∀ p H', Same H H' → H' p = some (.lst []) → Q (.ref p) H') : tLst tNil σ H Q := ⟨by show 0 ≤ sizeLine; decide, fun t ht => h t _ (Same.new (Same.refl _) ht) upd_same⟩
theorem rdL2 (h : ∀ p H', Same H H' → H' p = some (.lst [x, y]) → Q (.ref p) H') : tLst (tCons (tC x) (tCons (tC y) tNil)) σ H Q := ⟨by show 2 ≤ sizeLine; decide, fun t ht => h t _ (Same.new (Same.refl _) ht) upd_same⟩
theorem rdLT (h : ∀ q p H', Same H H' → H' p = some (.lst [.ref q]) → Q (.ref p) H') : tLst (tCons (tTup (tCons (tC x) tNil)) tNil) σ H Q :=
  rdT1 (σ := σ) (Q := fun z H1 => ([z] : List V).length ≤ sizeLine ∧ ∀ p, H1 p = none → Q (.ref p) (upd H1 p (.lst [z]))) fun q H1 s1 e1 => ⟨by show 1 ≤ sizeLine; decide, fun p hp => h q p _ (Same.new s1 hp) upd_same⟩
theorem rdD (h : ∀ p H', Same H H' → H' p = some (.dK []) → Q (.ref p) H') : tDNewK σ H Q := fun t ht => h t _ (Same.new (Same.refl _) ht) upd_same
def oddV (p0 p1 p2 p3 p4 p5 p6 p7 : Addr) : List V :=
  [.non, .bl true, .bl false, .int (-1), .int 6, .int 1001, .int 1000000001, .int (-1000000001), .int (10 ^ (30 : Int).toNat), .str "", .str "A", .str "abcdefghi", .str "a b", .str "-",
   .str "say ", .ref p0, .ref p1, .ref p2, .ref p3, .ref p4, .ref p5, .ref p6, .ref p7, .str "echo", .int 0, .int 5, .int 1000, .str "a"]
def oddX : List PyData :=
  [.none, .bool true, .bool false, .int (-1), .int 6, .int 1001, .int 1000000001, .int (-1000000001), .int (10 ^ (30 : Int).toNat), .str "", .str "A", .str "abcdefghi", .str "a b", .str "-",
   .str "say ", .tuple [], .tuple [.str "say"], .tuple [.str "echo", .str "a"], .list [], .list [], .dict [], .tuple [.tuple [.str "echo"]], .list [], .str "echo", .int 0, .int 5, .int 1000, .str "a"]
theorem rep_b {H : Hp} {k : Nat} (b : Bool) : Rep H k (.bl b) (.bool b) := by cases k <;> rfl
theorem rep_l {H : Hp} {k : Nat} {a : Addr} {xs : List V} (h : H a = some (.lst xs)) : Rep H k (.ref a) (.list []) := by cases k <;> exact ⟨a, xs, rfl, h⟩
theorem rep_d {H : Hp} {k : Nat} {a : Addr} (h : H a = some (.dK [])) : Rep H k (.ref a) (.dict []) := by cases k <;> exact ⟨a, rfl, h⟩
theorem odd_pair {H : Hp} {p0 p1 p2 p3 p4 p5 p6 p7 q6 : Addr} {a3 a4 a7 : List V} (h0 : H p0 = some (.tup [])) (h1 : H p1 = some (.tup [.str "say"])) (h2 : H p2 = some (.tup [.str "echo", .str "a"])) (h3 : H p3 = some (.lst a3)) (h4 : H p4 = some (.lst a4)) (h5 : H p5 = some (.dK []))
    (g6 : H q6 = some (.tup [.str "echo"])) (h6 : H p6 = some (.tup [.ref q6])) (h7 : H p7 = some (.lst a7)) : Paired (fun v x => Rep H 2 v x ∧ szD x ≤ 20) (oddV p0 p1 p2 p3 p4 p5 p6 p7) oddX := by
  have S : ∀ x : Str, x.length ≤ 10 → Rep H 2 (.str x) (.str x) ∧ szD (.str x) ≤ 20 := fun x hx => ⟨rep_s x, by rw [szD]; omega⟩
  have I : ∀ i : Int, Rep H 2 (.int i) (.int i) ∧ szD (.int i) ≤ 20 := fun i => ⟨rep_i i, show 1 ≤ 20 by decide⟩
  refine .cons ⟨rep_n, by decide +kernel⟩ (.cons ⟨rep_b _, by decide +kernel⟩ (.cons ⟨rep_b _, by decide +kernel⟩ (.cons (I _) (.cons (I _) (.cons (I _) (.cons (I _) (.cons (I _) (.cons (I _) (.cons (S _ (by decide +kernel)) (.cons (S _ (by decide +kernel)) (.cons (S _ (by decide +kernel)) (.cons (S _ (by decide +kernel)) (.cons (S _ (by decide +kernel)) (.cons (S _ (by decide +kernel)) ?_))))))))))))))
  refine .cons ⟨rep_t h0 .nil, by decide +kernel⟩ (.cons ⟨rep_t h1 (.cons (rep_s _) .nil), by decide +kernel⟩ (.cons ⟨rep_t h2 (.cons (rep_s _) (.cons (rep_s _) .nil)), by decide +kernel⟩ (.cons ⟨rep_l h3, by decide +kernel⟩ (.cons ⟨rep_l h4, by decide +kernel⟩ (.cons ⟨rep_d h5, by decide +kernel⟩
    (.cons ⟨rep_t h6 (.cons (rep_t g6 (.cons (rep_s _) .nil)) .nil), by decide +kernel⟩ (.cons ⟨rep_l h7, by decide +kernel⟩ (.cons (S _ (by decide +kernel)) (.cons (I _) (.cons (I _) (.cons (I _) (.cons (S _ (by decide +kernel)) .nil))))))))))))
def spOdd : Sp := fun vs H Q _ => ∃ (d l : Addr) (ms : List Int) (n L : Int), vs = [.ref d] ∧ Pen H d l ms n L ∧ n < 2 ^ 39 ∧ ∀ (v : V) (x : PyData) (n' L' : Int) (H' : Hp), Rep H' 2 v x → szD x ≤ 20 → Dr H H' d l ms n n' L' 1 → Q v H'
abbrev sOdd : Stmt := top 40
theorem scOdd : FnScope ["_law_held", "_law_some"] ["_law_held"] (defScope sOdd) := ⟨rfl, rfl, rfl, by decide +kernel, rfl, by decide +kernel, by decide +kernel⟩
theorem ok_odd {f fD : Addr} {fd dD : FuncData} (F : Fun K "_law_odd" "_law_odd" sOdd f fd) (GD : FnOk P w K mg pB CX0 1 fD dD ["_law_held", "_law_many_here"] spDraw) (mD : mg "_law_draw" = some (.ref fD)) (kD : PySem.W.keepIn K (.ref fD) = true) (bD : Binds K dD ["_law_held", "_law_many_here"] []) :
    FnOk P w K mg pB CX0 2 f fd ["_law_held"] spOdd := by
  refine F.ok scOdd (fun vs H Q E h => ?_) (fun cdv A outer s H vs Q E hr h => ?_)
  · obtain ⟨d, l, ms, n, L, rfl, _⟩ := h
    rfl
  · obtain ⟨d, l, ms, n, L, rfl, p, hn, k⟩ := h
    have nd := scOdd.nd
    refine ⟨_, pss_cons (ps_set (i := 1) nd rfl (Or.inl rfl) (pe_lst (pa_cons pe_non (pa_cons pe_bl (pa_cons pe_bl (pa_cons (pe_un un_neg pe_int) (pa_cons pe_int (pa_cons pe_int (pa_cons pe_int (pa_cons (pe_un un_neg pe_int) (pa_cons (pe_op op_pow pe_int pe_int)
        (pa_cons pe_str (pa_cons pe_str (pa_cons pe_str (pa_cons pe_str (pa_cons pe_str pa_nil))))))))))))))))
      (pss_cons (ps_set (i := 1) nd rfl (Or.inl rfl) (pe_op op_cat (pv 1) (pe_lst (pa_cons pe_str (pa_cons (pe_tup pa_nil) (pa_cons (pe_tup (pa_cons pe_str pa_nil)) (pa_cons (pe_tup (pa_cons pe_str (pa_cons pe_str pa_nil)))
        (pa_cons (pe_lst pa_nil) (pa_cons (pe_lst (pa_cons pe_str (pa_cons pe_str pa_nil))) (pa_cons pe_dnewK (pa_cons (pe_tup (pa_cons (pe_tup (pa_cons pe_str pa_nil)) pa_nil)) (pa_cons (pe_lst (pa_cons (pe_tup (pa_cons pe_str pa_nil)) pa_nil)) (pa_cons pe_str pa_nil)))))))))))))
      (pss_one (ps_ret (pe_ix ix_list (pe_op op_cat (pv 1) (pe_lst (pa_cons pe_int (pa_cons pe_int (pa_cons pe_int (pa_cons pe_str pa_nil))))))
        (pe_call GD hr rfl mD kD bD .nil pass0 (pa_cons (pv 0) (pa_cons pe_int pa_nil))) (fun _ _ => rfl))))), ?_⟩
    refine asg_n ⟨_, rfl, _, rfl, _, _, rfl, rfl, ⟨by decide, by decide, by decide⟩, by show 14 ≤ sizeLine; decide, fun l1 hl1 => ?_⟩
    generalize hA : ([V.non, .bl true, .bl false, .int (-1), .int 6, .int 1001, .int 1000000001, .int (-1000000001), .int (10 ^ (30 : Int).toNat), .str "", .str "A", .str "abcdefghi", .str "a b", .str "-"] : List V) = A1
    have s1 : Same H (upd H l1 (.lst A1)) := Same.new (Same.refl _) hl1
    have c1 : (upd H l1 (.lst A1)) l1 = some (.lst A1) := upd_same
    have hA14 : A1.length = 14 := by rw [← hA]; rfl
    refine asg_n ⟨_, rfl, ?_⟩
    refine lst_of (cons_c (cons_of (rdT0 fun p0 H0 t0 e0 => cons_of (rdT1 fun p1 H1 t1 e1 => cons_of (rdT2 fun p2 H2 t2 e2 => cons_of (rdL0 fun p3 H3 t3 e3 => cons_of (rdL2 fun p4 H4 t4 e4 => cons_of (rdD fun p5 H5 t5 e5 => cons_of (rdTT fun q6 p6 H6 t6 g6 e6 => cons_of (rdLT fun q7 p7 H7 t7 e7 => ?_))))))))))
    refine ⟨by show 10 ≤ sizeLine; decide, fun l2 hl2 => ?_⟩
    have z7 : Same H7 (upd H7 l2 (.lst [.str "say ", .ref p0, .ref p1, .ref p2, .ref p3, .ref p4, .ref p5, .ref p6, .ref p7, .str "echo"])) := Same.new (Same.refl _) hl2
    have u6 := t7.trans z7
    have u5 := t6.trans u6
    have u4 := t5.trans u5
    have u3 := t4.trans u4
    have u2 := t3.trans u3
    have u1 := t2.trans u2
    have u0 := t1.trans u1
    have uA := t0.trans u0
    have c2 := uA _ _ c1
    refine ⟨l1, l2, _, _, rfl, rfl, c2, upd_same, by rw [hA14]; show 24 ≤ sizeLine; decide, fun l3 hl3 => ?_⟩
    have z8 := Same.new (o := .lst (A1 ++ [.str "say ", .ref p0, .ref p1, .ref p2, .ref p3, .ref p4, .ref p5, .ref p6, .ref p7, .str "echo"])) (Same.refl _) hl3
    refine ⟨_, rfl, by show 4 ≤ sizeLine; decide, fun l4 hl4 => ?_⟩
    have z9 := Same.new (o := .lst [.int 0, .int 5, .int 1000, .str "a"]) (Same.refl _) hl4
    refine ⟨l3, l4, _, _, rfl, rfl, z9 _ _ upd_same, upd_same, by rw [List.length_append, hA14]; show 28 ≤ sizeLine; decide, fun l5 hl5 => ?_⟩
    have zA := Same.new (o := .lst (A1 ++ [.str "say ", .ref p0, .ref p1, .ref p2, .ref p3, .ref p4, .ref p5, .ref p6, .ref p7, .str "echo"] ++ [.int 0, .int 5, .int 1000, .str "a"])) (Same.refl _) hl5
    have zz := z8.trans (z9.trans zA)
    have all := s1.trans (uA.trans zz)
    have pr := odd_pair (zz _ _ (u0 _ _ e0)) (zz _ _ (u1 _ _ e1)) (zz _ _ (u2 _ _ e2)) (zz _ _ (u3 _ _ e3)) (zz _ _ (u4 _ _ e4)) (zz _ _ (u5 _ _ e5)) (zz _ _ (u6 _ _ g6)) (zz _ _ (u6 _ _ e6)) (zz _ _ (z7 _ _ e7))
    have eL : A1 ++ [.str "say ", .ref p0, .ref p1, .ref p2, .ref p3, .ref p4, .ref p5, .ref p6, .ref p7, .str "echo"] ++ [.int 0, .int 5, .int 1000, .str "a"] = oddV p0 p1 p2 p3 p4 p5 p6 p7 := by
      rw [← hA]; rfl
    rw [eL]
    rw [eL] at all pr
    refine rd_dr (m := 28) rfl (fun _ h => h) (p.same all) (by omega) (by decide) (by decide) fun r n2 L2 HZ r0 r1 x2 => ?_
    have cq : HZ l5 = some (.lst (oddV p0 p1 p2 p3 p4 p5 p6 p7)) := x2.kp _ _ upd_same (ne_of upd_same (p.same all).dc (by intro z; cases z))
    obtain ⟨v, _, hat, hg⟩ := atI_of (xs := oddV p0 p1 p2 p3 p4 p5 p6 p7) r0 r1
    obtain ⟨x, _, hx1, hx2⟩ := Paired.at pr hg
    exact ⟨l5, _, _, v, rfl, rfl, SqL.of cq, hat, k v x n2 L2 HZ (x2.rep (p.same all) hx1) hx2 ((((Dr.refl p).same all).trans x2).wk (by decide))⟩
end
end My

set_option Elab.async false
set_option linter.all false
set_option maxRecDepth 100000
set_option maxHeartbeats 4000000
namespace My
open PySem L2
section
variable {P : Program} {w : World} {K : PySem.W.Frag} {mg : Str → Option Value} {pB : Heap}
theorem pTake {α β : Type} {F : α → β → Prop} : ∀ {xs : List α} {ys : List β} (n : Nat), Paired F xs ys → Paired F (xs.take n) (ys.take n)
  | _, _, 0, _ => .nil
  | _, _, _ + 1, .nil => .nil
  | _, _, n + 1, .cons r t => .cons r (pTake n t)
theorem pDrop {α β : Type} {F : α → β → Prop} : ∀ {xs : List α} {ys : List β} (n : Nat), Paired F xs ys → Paired F (xs.drop n) (ys.drop n)
  | _, _, 0, r => r
  | _, _, _ + 1, .nil => .nil
  | _, _, n + 1, .cons _ t => pDrop n t
theorem pApp {α β : Type} {F : α → β → Prop} : ∀ {xs us : List α} {ys ws : List β}, Paired F xs ys → Paired F us ws → Paired F (xs ++ us) (ys ++ ws)
  | _, _, _, _, .nil, s => s
  | _, _, _, _, .cons r t, s => .cons r (pApp t s)
theorem pRev {α β : Type} {F : α → β → Prop} : ∀ {xs : List α} {ys : List β}, Paired F xs ys → Paired F xs.reverse ys.reverse
  | _, _, .nil => .nil
  | _, _, .cons r t => by
    rw [List.reverse_cons, List.reverse_cons]
    exact pApp (pRev t) (.cons r .nil)
theorem rd_cat {H : Hp} {Q : VK} {a b : Addr} {xs ys : List V} (ha : H a = some (.tup xs)) (hb : H b = some (.tup ys)) (hz : xs.length + ys.length ≤ sizeLine) (h : ∀ p H', Same H H' → H' p = some (.tup (xs ++ ys)) → Q (.ref p) H') : rCatA K (.ref a) (.ref b) H Q := by
  refine ⟨a, b, xs, ys, rfl, rfl, SqT.of ha, SqT.of hb, hz, fun e => ?_, fun _ e => ?_, fun _ _ p hp => h p _ (Same.new (Same.refl _) hp) upd_same⟩
  · exact h b H (Same.refl _) (by rw [hb, e]; rfl)
  · exact h a H (Same.refl _) (by rw [ha, e, List.append_nil])
theorem rd_slT {H : Hp} {Q : VK} {a : Addr} {xs : List V} {lo hi : Option Int} (ha : H a = some (.tup xs)) (h : ∀ p H', Same H H' → H' p = some (.tup (cutV xs lo hi)) → Q (.ref p) H') : rSlA K (.ref a) lo hi H Q := by
  refine ⟨a, xs, rfl, SqT.of ha, fun e => h a H (Same.refl _) ?_, fun _ p hp => h p _ (Same.new (Same.refl _) hp) upd_same⟩
  rw [ha]
  unfold cutV
  rw [e.1, e.2, List.drop_zero, Nat.sub_zero, List.take_length]
theorem cut_to (xs : List V) {k : Int} (h0 : 0 ≤ k) (h1 : k ≤ xs.length) : cutV xs none (some k) = xs.take k.toNat := by
  unfold cutV
  rw [HT.sIx_none, List.drop_zero, Nat.sub_zero]
  have e : HT.sIx xs.length xs.length (some k) = k.toNat := by
    show (if k < 0 then _ else min k.toNat xs.length) = _
    rw [if_neg (by omega)]; omega
  rw [e]
theorem cut_from (xs : List V) {k : Int} (h0 : 0 ≤ k) (h1 : k ≤ xs.length) : cutV xs (some k) none = xs.drop k.toNat := by
  unfold cutV
  have e : HT.sIx xs.length 0 (some k) = k.toNat := by
    show (if k < 0 then _ else min k.toNat xs.length) = _
    rw [if_neg (by omega)]; omega
  rw [HT.sIx_none, e, List.take_of_length_le]
  rw [List.length_drop]; omega
theorem szL_at {ds : List PyData} {i : Nat} {e : PyData} (h : ds[i]? = some e) : szL ds = szL (ds.take i) + szD e + szL (ds.drop (i + 1)) := by
  have hl : i < ds.length := (List.getElem?_eq_some_iff.mp h).1
  have e1 : ds.drop i = e :: ds.drop (i + 1) := by
    rw [List.drop_eq_getElem_cons hl]
    rw [List.getElem?_eq_getElem hl] at h
    rw [Option.some.inj h]
  rw [← szL_td ds i, e1, szL]; omega
theorem par_of {ta : TA} {i j : Nat} {b : TS} {D : Ends} {σ : L2.St} {H : Hp} (h : ta σ H fun vs H1 => ∃ v w, vs = [v, w] ∧ b D ((σ.set i (some v)).set j (some w)) H1) : tSeq (tPar i j ta) b D σ H := h
theorem np_of {σ : L2.St} {H : Hp} {Q : Option Int → Hp → Prop} (h : Q none H) : tNoPart σ H Q := h
theorem nxt_r {b : TS} {D : Ends} {σ : L2.St} {H : Hp} (h : b D σ H) : tNext { D with nx := b D } σ H := h
def bB (m : Nat) : Int := 10 * ((m : Int) + 1)
def spBent (m : Nat) : Sp := fun vs H Q _ => ∃ (d l : Addr) (ms : List Int) (n L : Int) (v : V) (x : PyData), vs = [.ref d, v] ∧ Pen H d l ms n L ∧ n + bB m < 2 ^ 39 ∧ Rep H m v x ∧ szD x ≤ 1000000 ∧
  ∀ (v' : V) (x' : PyData) (n' L' : Int) (H' : Hp), Rep H' (m + 2) v' x' → szD x' ≤ 2 * szD x + 20 → Dr H H' d l ms n n' L' (bB m) → Q v' H'
def spPrevB : Nat → Sp
  | 0 => spBot
  | m + 1 => spBent m
abbrev sBent : Stmt := top 41
theorem scBent : FnScope ["_law_held", "_law_it", "_law_at", "_law_far", "_law_way"] ["_law_held", "_law_it"] (defScope sBent) := ⟨rfl, rfl, rfl, by decide +kernel, rfl, by decide +kernel, by decide +kernel⟩
theorem step_bent {f fD fO : Addr} {fd dD dO : FuncData} (F : Fun K "_law_bent" "_law_bent" sBent f fd) (m : Nat) (G : FnOk P w K mg pB CX0 (m + 2) f fd ["_law_held", "_law_it"] (spPrevB m)) (mG : mg "_law_bent" = some (.ref f)) (bG : Binds K fd ["_law_held", "_law_it"] [])
    (GD : FnOk P w K mg pB CX0 1 fD dD ["_law_held", "_law_many_here"] spDraw) (mD : mg "_law_draw" = some (.ref fD)) (kD : PySem.W.keepIn K (.ref fD) = true) (bD : Binds K dD ["_law_held", "_law_many_here"] [])
    (GO : FnOk P w K mg pB CX0 2 fO dO ["_law_held"] spOdd) (mO : mg "_law_odd" = some (.ref fO)) (kO : PySem.W.keepIn K (.ref fO) = true) (bO : Binds K dO ["_law_held"] [])
    (mI : mg "isinstance" = none) (mT : mg "tuple" = none) (mLen : mg "len" = none) (mL : mg "list" = none) : FnOk P w K mg pB CX0 (m + 3) f fd ["_law_held", "_law_it"] (spBent m) := by
  refine F.ok scBent (fun vs H Q E h => ?_) (fun cdv A outer s H vs Q E hr h => ?_)
  · obtain ⟨d, l, ms, n, L, v, x, rfl, _⟩ := h
    rfl
  · obtain ⟨d, l, ms, n, L, v, x, rfl, p, hn, hR, hz, k⟩ := h
    have nd := scBent.nd
    have hr1 : Room 1 _ := hr.mono (by omega)
    have hr2 : Room 2 _ := hr.mono (by omega)
    have hbB : bB m = 10 * ((m : Int) + 1) := rfl
    refine ⟨_, pss_cons (ps_if (PW.pt (pw_or (pt_not (pt_val (pe_callB call_isi (by rfl) mI (by decide +kernel) (pa_cons (pv 1) (pa_cons (pe_bltn (by rfl) mT (by decide +kernel) (show RelV (.ty "tuple") (.type "tuple") from rfl)) pa_nil)))))
        (pw_or (pt_cmpR (op_eqT0 hr.units) (pv 1) (pe_tup pa_nil) (nomark _)) (pw_or1 (pt_cmpR op_eq (pe_call GD hr1 rfl mD kD bD .nil pass0 (pa_cons (pv 0) (pa_cons pe_int pa_nil))) pe_int (nomark _))))))
        (pss_one (ps_ret (pe_call GO hr2 rfl mO kO bO .nil pass0 (pa_cons (pv 0) pa_nil)))) pss_nil)
      (pss_cons (ps_par (by rfl) nd (i := 2) (j := 3) rfl rfl (by decide) rfl rfl (pa_cons (pe_call GD hr1 rfl mD kD bD .nil pass0 (pa_cons (pv 0) (pa_cons (pe_callB call_len_seq (by rfl) mLen PySem.boot_len (pa_cons (pv 1) pa_nil)) pa_nil)))
        (pa_cons (pe_call GD hr1 rfl mD kD bD .nil pass0 (pa_cons (pv 0) (pa_cons (pe_callB call_len_seq (by rfl) mLen PySem.boot_len (pa_cons (pv 1) pa_nil)) pa_nil))) pa_nil)) (by rfl))
      (pss_cons (ps_set (i := 4) nd rfl (Or.inl rfl) (pe_call GD hr1 rfl mD kD bD .nil pass0 (pa_cons (pv 0) (pa_cons pe_int pa_nil))))
      (pss_cons (ps_if (pt_cmpR op_lt (pv 4) pe_int (nomark _)) (pss_one (ps_ret (pe_op op_catA (pe_op op_catA (pe_slice sl_tupA (pv 1) po_none (po_some (pv 2)))
          (pe_tup (pa_cons (pe_call G hr rfl mG F.kp bG .nil pass0 (pa_cons (pv 0) (pa_cons (pe_ix ix_tup (pv 1) (pv 2) (fun _ _ => rfl)) pa_nil))) pa_nil))) (pe_slice sl_tupA (pv 1) (po_some (pe_op op_add (pv 2) pe_int)) po_none)))) pss_nil)
      (pss_cons (ps_if (pt_cmpR op_eq (pv 4) pe_int (nomark _)) (pss_one (ps_ret (pe_op op_catA (pe_slice sl_tupA (pv 1) po_none (po_some (pv 2))) (pe_slice sl_tupA (pv 1) (po_some (pe_op op_add (pv 2) pe_int)) po_none)))) pss_nil)
      (pss_cons (ps_if (pt_cmpR op_eq (pv 4) pe_int (nomark _)) (pss_one (ps_ret (pe_op op_catA (pe_op op_catA (pe_slice sl_tupA (pv 1) po_none (po_some (pv 2))) (pe_tup (pa_cons (pe_ix ix_tup (pv 1) (pv 3) (fun _ _ => rfl)) pa_nil))) (pe_slice sl_tupA (pv 1) (po_some (pv 2)) po_none)))) pss_nil)
      (pss_one (ps_ret (pe_ix ix_list (pe_lst (pa_cons (pe_op op_catA (pe_op op_catA (pe_slice sl_tupA (pv 1) po_none (po_some (pv 2))) (pe_tup (pa_cons (pe_ix ix_tup (pv 1) (pv 3) (fun _ _ => rfl)) pa_nil))) (pe_slice sl_tupA (pv 1) (po_some (pe_op op_add (pv 2) pe_int)) po_none))
          (pa_cons (pe_ix ix_list (pe_lst (pa_cons (pe_revT (pv 1)) (pa_cons (pe_callTy call_list_of (by rfl) mL (by decide +kernel) (pa_cons (pv 1) pa_nil)) pa_nil))) (pe_call GD hr1 rfl mD kD bD .nil pass0 (pa_cons (pv 0) (pa_cons pe_int pa_nil))) (fun _ _ => rfl)) pa_nil)))
        (pe_op op_sub (pv 4) pe_int) (fun _ _ => rfl))))))))), ?_⟩
    have odd : ∀ (H1 : Hp) (n1 L1 : Int), Dr H H1 d l ms n n1 L1 1 → spOdd [.ref d] H1 Q E0 := fun H1 n1 L1 x1 => by
      have := x1.hi
      exact ⟨d, l, ms, n1, L1, rfl, x1.pn, by omega, fun v2 t2 n2 L2 H2 hr2 hs2 x2 => k v2 t2 n2 L2 H2 (hr2.mono (by omega)) (by omega) ((x1.trans x2).wk (by omega))⟩
    refine rd_isi (.inr (.inr (.inr rfl))) rfl hR ⟨_, rfl, ?_⟩
    rcases @notTup x with ⟨ds, rfl⟩ | hnt
    · refine iteB0 rfl ?_
      obtain ⟨m', a, xs, rfl, rfl, ha, hp⟩ := rep_tup hR
      have hlen := Paired.length hp
      refine ⟨_, rfl, by show 0 ≤ sizeLine; decide, fun t0 ht0 => ?_⟩
      have s0 : Same H (upd H t0 (.tup [])) := Same.new (Same.refl _) ht0
      refine ⟨a, t0, xs, rfl, rfl, SqT.of (s0 _ _ ha), SqT.of upd_same, _, rfl, ?_⟩
      cases hxe : xs.isEmpty with
      | true => exact iteT (iteT ⟨_, rfl, odd _ n L (((Dr.refl p).same s0).wk (by decide))⟩)
      | false =>
        have hpos : 0 < xs.length := by
          cases xs with
          | nil => cases hxe
          | cons _ _ => exact Nat.succ_pos _
        have hsl : szL ds < 1000000 := by rw [szD] at hz; omega
        have hxl : xs.length ≤ szL ds := by rw [hlen]; exact szL_len ds
        refine iteF (rd_dr (m := 12) rfl (fun _ h => h) (p.same s0) (by omega) (by decide) (by decide) fun r1 n1 L1 H1 u0 u1 x1 => ⟨rfl, _, rfl, ?_⟩)
        have X1 := ((Dr.refl p).same s0).trans x1
        have h1 := X1.hi
        refine ite2 (fun _ => ⟨_, rfl, odd H1 n1 L1 (X1.wk (by decide))⟩) (fun _ => ?_)
        have keepA : ∀ {Hk : Hp} {nk Lk c : Int}, Dr H Hk d l ms n nk Lk c → Hk a = some (.tup xs) := fun X => X.kp _ _ ha (ne_of ha p.dc (by intro z; cases z))
        have keepP : ∀ {Hk : Hp} {nk Lk c : Int}, Dr H Hk d l ms n nk Lk c → Paired (Rep Hk m') xs ds := fun X => Paired.mapP hp fun _ _ z => X.rep p z
        refine nxt_of (par_of (cons_of (rd_dr (m := (xs.length : Int)) rfl (fun _ h => ⟨_, rfl, a, xs, rfl, .inr (SqT.of (keepA X1)), h⟩) x1.pn (by omega) (by omega) (by omega) fun at_ n2 L2 H2 a0 a1 x2 => ?_)))
        have X2 := X1.trans x2
        have h2 := X2.hi
        refine cons_of (rd_dr (m := (xs.length : Int)) rfl (fun _ h => ⟨_, rfl, a, xs, rfl, .inr (SqT.of (keepA X2)), h⟩) x2.pn (by omega) (by omega) (by omega) fun far n3 L3 H3 f0 f1 x3 => ⟨_, _, rfl, ?_⟩)
        have X3 := X2.trans x3
        have h3 := X3.hi
        refine asg_n (rd_dr (m := 10) rfl (fun _ h => h) x3.pn (by omega) (by decide) (by decide) fun way n4 L4 H4 w0 w1 x4 => ?_)
        have X4 := X3.trans x4
        have h4 := X4.hi
        have ca4 := keepA X4
        obtain ⟨xe, _, hatI, hge⟩ := atI_of (xs := xs) a0 a1
        obtain ⟨xf, _, hfaI, hgf⟩ := atI_of (xs := xs) f0 f1
        obtain ⟨te, hte, hre⟩ := Paired.at (keepP X4) hge
        obtain ⟨tf, htf, hrf⟩ := Paired.at (keepP X4) hgf
        have ze := szL_at hte
        have zf := szL_get htf
        have lt1 : (xs.take at_.toNat).length ≤ xs.length := List.length_take_le' _ _
        have ld1 : (xs.drop (at_ + 1).toNat).length ≤ xs.length := by rw [List.length_drop]; omega
        have ld0 : (xs.drop at_.toNat).length ≤ xs.length := by rw [List.length_drop]; omega
        have eD : (at_ + 1).toNat = at_.toNat + 1 := by omega
        have big : 3 * xs.length + 10 ≤ sizeLine := Nat.le_trans (show 3 * xs.length + 10 ≤ 4000000 by omega) (by decide)
        have fin : ∀ {Hk : Hp} {nk Lk c : Int} {pk : Addr} {ys : List V} {es : List PyData}, Dr H Hk d l ms n nk Lk c → c ≤ bB (m' + 1) → Hk pk = some (.tup ys) → Paired (Rep Hk (m' + 2)) ys es → szL es ≤ 2 * szL ds + 20 → Q (.ref pk) Hk :=
          fun X hc hk hpp hs => k (.ref _) (.tuple _) _ _ _ (rep_t hk hpp) (by rw [szD, szD]; omega) (X.wk hc)
        have upl : ∀ {Hk : Hp} {nk Lk c : Int}, Dr H Hk d l ms n nk Lk c → Paired (Rep Hk (m' + 2)) xs ds := fun X => Paired.mapP (keepP X) fun _ _ z => z.mono (by omega)
        have hbB' : bB (m' + 1) = 10 * (((m' + 1 : Nat) : Int) + 1) := rfl
        have hbB2 : bB m' = 10 * ((m' : Int) + 1) := rfl
        refine ⟨_, rfl, _, _, rfl, rfl, _, rfl, ite2 (fun c1 => ?_) (fun c1 => ?_)⟩
        · refine ⟨_, rfl, _, rfl, _, rfl, rd_slT ca4 fun p5 H5 s5 c5 => ?_⟩
          rw [cut_to xs a0 (by omega)] at c5
          have X5 := X4.same s5
          have h5 := X5.hi
          refine call_of (sp := spBent m') ⟨_, rfl, _, rfl, _, rfl, a, xs, _, xe, rfl, rfl, SqT.of (s5 _ _ ca4), hatI, d, l, ms, n4, L4, xe, te, rfl, X5.pn, by omega, hre.same s5, by omega, fun v6 t6 n6 L6 H6 hr6 hs6 x6 => ⟨by show 1 ≤ sizeLine; decide, fun t7 ht7 => ?_⟩⟩
          have s7 : Same H6 (upd H6 t7 (.tup [v6])) := Same.new (Same.refl _) ht7
          have X7 := (X5.trans x6).same s7
          have h7 := X7.hi
          have c5' : (upd H6 t7 (.tup [v6])) p5 = some (.tup (xs.take at_.toNat)) := s7 _ _ (x6.kp _ _ c5 (ne_of c5 X5.pn.dc (by intro z; cases z)))
          refine rd_cat c5' upd_same (by show _ + 1 ≤ sizeLine; omega) fun p8 H8 s8 c8 => ?_
          have X8 := X7.same s8
          refine ⟨_, rfl, _, rfl, _, _, rfl, rfl, _, rfl, np_of (rd_slT (keepA X8) fun p9 H9 s9 c9 => ?_)⟩
          rw [cut_from xs (by omega) (by omega)] at c9
          have X9 := X8.same s9
          refine rd_cat (s9 _ _ c8) c9 (by rw [List.length_append]; show _ + 1 + _ ≤ sizeLine; omega) fun p10 H10 s10 c10 => ?_
          have X10 := X9.same s10
          have hv6 : Rep H10 (m' + 2) v6 t6 := (((hr6.same s7).same s8).same s9).same s10
          refine fin X10 (by omega) c10 (pApp (pApp (pTake at_.toNat (upl X10)) (.cons hv6 .nil)) (pDrop (at_ + 1).toNat (upl X10))) ?_
          rw [szL_app, szL_app, szL, szL, eD]
          omega
        refine ⟨_, rfl, rfl, _, rfl, ite2 (fun c2 => ?_) (fun c2 => ?_)⟩
        · refine ⟨_, rfl, _, rfl, _, rfl, rd_slT ca4 fun p5 H5 s5 c5 => ?_⟩
          rw [cut_to xs a0 (by omega)] at c5
          have X5 := X4.same s5
          refine ⟨_, rfl, _, rfl, _, _, rfl, rfl, _, rfl, np_of (rd_slT (keepA X5) fun p9 H9 s9 c9 => ?_)⟩
          rw [cut_from xs (by omega) (by omega)] at c9
          refine rd_cat (s9 _ _ c5) c9 (by omega) fun p10 H10 s10 c10 => ?_
          have X10 := (X5.same s9).same s10
          refine fin X10 (by omega) c10 (pApp (pTake at_.toNat (upl X10)) (pDrop (at_ + 1).toNat (upl X10))) ?_
          rw [szL_app, eD]
          omega
        refine ⟨_, rfl, rfl, _, rfl, ite2 (fun c3 => ?_) (fun c3 => ?_)⟩
        · refine ⟨_, rfl, _, rfl, _, rfl, rd_slT ca4 fun p5 H5 s5 c5 => ?_⟩
          rw [cut_to xs a0 (by omega)] at c5
          refine ⟨_, rfl, _, rfl, a, xs, _, xf, rfl, rfl, SqT.of (s5 _ _ ca4), hfaI, by show 1 ≤ sizeLine; decide, fun t7 ht7 => ?_⟩
          have s7 : Same H5 (upd H5 t7 (.tup [xf])) := Same.new (Same.refl _) ht7
          refine rd_cat (s7 _ _ c5) upd_same (by show _ + 1 ≤ sizeLine; omega) fun p8 H8 s8 c8 => ?_
          have X8 := ((X4.same s5).same s7).same s8
          refine ⟨_, rfl, _, rfl, _, rfl, np_of (rd_slT (keepA X8) fun p9 H9 s9 c9 => ?_)⟩
          rw [cut_from xs a0 (by omega)] at c9
          refine rd_cat (s9 _ _ c8) c9 (by rw [List.length_append]; show _ + 1 + _ ≤ sizeLine; omega) fun p10 H10 s10 c10 => ?_
          have X10 := (X8.same s9).same s10
          have hvf : Rep H10 (m' + 2) xf tf := ((((hrf.same s5).same s7).same s8).same s9 |>.same s10).mono (by omega)
          refine fin X10 (by omega) c10 (pApp (pApp (pTake at_.toNat (upl X10)) (.cons hvf .nil)) (pDrop at_.toNat (upl X10))) ?_
          have := szL_td ds at_.toNat
          rw [szL_app, szL_app, szL, szL]
          omega
        refine nxt_r ?_
        refine ⟨_, rfl, _, rfl, _, rfl, rd_slT ca4 fun p5 H5 s5 c5 => ?_⟩
        rw [cut_to xs a0 (by omega)] at c5
        refine ⟨_, rfl, _, rfl, a, xs, _, xf, rfl, rfl, SqT.of (s5 _ _ ca4), hfaI, by show 1 ≤ sizeLine; decide, fun t7 ht7 => ?_⟩
        have s7 : Same H5 (upd H5 t7 (.tup [xf])) := Same.new (Same.refl _) ht7
        refine rd_cat (s7 _ _ c5) upd_same (by show _ + 1 ≤ sizeLine; omega) fun p8 H8 s8 c8 => ?_
        have X8 := ((X4.same s5).same s7).same s8
        refine ⟨_, rfl, _, rfl, _, _, rfl, rfl, _, rfl, np_of (rd_slT (keepA X8) fun p9 H9 s9 c9 => ?_)⟩
        rw [cut_from xs (by omega) (by omega)] at c9
        refine rd_cat (s9 _ _ c8) c9 (by rw [List.length_append]; show _ + 1 + _ ≤ sizeLine; omega) fun p10 H10 s10 c10 => ?_
        have X10 := (X8.same s9).same s10
        have ca10 := keepA X10
        refine ⟨_, rfl, a, xs, rfl, SqT.of ca10, fun r1 hr1' => ?_⟩
        have s11 : Same H10 (upd H10 r1 (.tup xs.reverse)) := Same.new (Same.refl _) hr1'
        have ca11 := s11 _ _ ca10
        refine ⟨_, rfl, a, xs, rfl, .inr (SqT.of ca11), fun l1 hl1 => ?_⟩
        have s12 := Same.new (o := .lst xs) (Same.refl _) hl1
        refine ⟨by show 2 ≤ sizeLine; decide, fun l2 hl2 => ?_⟩
        have s13 := Same.new (o := .lst [.ref r1, .ref l1]) (Same.refl _) hl2
        have s14 := s11.trans (s12.trans s13)
        have X14 := X10.same s14
        have h14 := X14.hi
        have cr := s13 _ _ (s12 _ _ (upd_same (H := H10) (a := r1) (o := .tup xs.reverse)))
        have cl := s13 _ _ (upd_same (H := upd H10 r1 (.tup xs.reverse)) (a := l1) (o := .lst xs))
        refine rd_dr (m := 2) rfl (fun _ h => h) X14.pn (by omega) (by decide) (by decide) fun r n15 L15 H15 r0 r1' x15 => ?_
        have X15 := X14.trans x15
        have cL2 := x15.kp _ _ (upd_same (a := l2) (o := .lst [.ref r1, .ref l1])) (ne_of upd_same X14.pn.dc (by intro z; cases z))
        have cr15 := x15.kp _ _ cr (ne_of cr X14.pn.dc (by intro z; cases z))
        have cl15 := x15.kp _ _ cl (ne_of cl X14.pn.dc (by intro z; cases z))
        have c10' := x15.kp _ _ (s14 _ _ c10) (ne_of (s14 _ _ c10) X14.pn.dc (by intro z; cases z))
        obtain ⟨vi, hvi, hati, _⟩ := atI_of (xs := [V.ref r1, V.ref l1]) r0 r1'
        refine ⟨l2, _, _, vi, rfl, rfl, SqL.of cL2, hati, ?_⟩
        refine ⟨by show 2 ≤ sizeLine; decide, fun l3 hl3 => ?_⟩
        have s16 := Same.new (o := .lst [.ref p10, vi]) (Same.refl _) hl3
        have X16 := X15.same s16
        have e1 : ¬ way < 6 := fun h => c1 (decide_eq_true h)
        have e2 : ¬ way = 6 := fun h => c2 (by rw [h]; rfl)
        have e3 : ¬ way = 7 := fun h => c3 (by rw [h]; rfl)
        obtain ⟨vo, hvo, hato, _⟩ := atI_of (xs := [V.ref p10, vi]) (r := way - 8) (by omega) (by show way - 8 < 2; omega)
        refine ⟨_, rfl, _, _, rfl, rfl, l3, _, _, vo, rfl, rfl, SqL.of upd_same, hato, ?_⟩
        have hvf : Rep _ (m' + 2) xf tf := ((((((hrf.same s5).same s7).same s8).same s9 |>.same s10).same s14 |> x15.rep X14.pn).same s16).mono (by omega)
        rcases List.mem_cons.mp hvo with rfl | hvo
        · refine fin X16 (by omega) (s16 _ _ c10') (pApp (pApp (pTake at_.toNat (upl X16)) (.cons hvf .nil)) (pDrop (at_ + 1).toNat (upl X16))) ?_
          rw [szL_app, szL_app, szL, szL, eD]
          omega
        cases List.mem_singleton.mp hvo
        rcases List.mem_cons.mp hvi with rfl | hvi
        · refine fin X16 (by omega) (s16 _ _ cr15) (pRev (upl X16)) ?_
          rw [szL_rev]; omega
        · cases List.mem_singleton.mp hvi
          exact k _ (.list []) _ _ _ (rep_l (s16 _ _ cl15)) (by show 1 ≤ _; omega) (X16.wk (by omega))
    · refine iteB1 (by cases x <;> first | rfl | exact absurd rfl (hnt _)) (iteT ?_)
      exact ⟨_, rfl, odd H n L ((Dr.refl p).wk (by decide))⟩
theorem ok_bent {f fD fO : Addr} {fd dD dO : FuncData} (F : Fun K "_law_bent" "_law_bent" sBent f fd) (mG : mg "_law_bent" = some (.ref f)) (bG : Binds K fd ["_law_held", "_law_it"] [])
    (GD : FnOk P w K mg pB CX0 1 fD dD ["_law_held", "_law_many_here"] spDraw) (mD : mg "_law_draw" = some (.ref fD)) (kD : PySem.W.keepIn K (.ref fD) = true) (bD : Binds K dD ["_law_held", "_law_many_here"] [])
    (GO : FnOk P w K mg pB CX0 2 fO dO ["_law_held"] spOdd) (mO : mg "_law_odd" = some (.ref fO)) (kO : PySem.W.keepIn K (.ref fO) = true) (bO : Binds K dO ["_law_held"] [])
    (mI : mg "isinstance" = none) (mT : mg "tuple" = none) (mLen : mg "len" = none) (mL : mg "list" = none) : ∀ m, FnOk P w K mg pB CX0 (m + 3) f fd ["_law_held", "_law_it"] (spBent m)
  | 0 => step_bent F 0 ok_bot mG bG GD mD kD bD GO mO kO bO mI mT mLen mL
  | m + 1 => step_bent F (m + 1) (ok_bent F mG bG GD mD kD bD GO mO kO bO mI mT mLen mL m) mG bG GD mD kD bD GO mO kO bO mI mT mLen mL
end
end My

set_option Elab.async false
set_option linter.all false
set_option maxRecDepth 100000
set_option maxHeartbeats 4000000
namespace My
open PySem PySem.W
open PySem.Sem (wp)
section
variable {prog : Program} {w : World} {z TI TO i1 i2 : Addr} {fp1 fp2 : List Addr} {n1 n2 : Nat} {P1 P2 : Nat → Value → Prop} {St1 St2 : Nat → Heap → Prop}
/-- one turn of a zip whose first pair is still held by somebody -/
theorem held_item {A : Around} {E : Value → Shared → Prop} {s : Shared} {i : Nat} {T : Addr} {f : Bool} {oT : Obj} {Q : Option Value → Shared → Prop} (S : ZipSep2 z TI TO i1 i2 fp1 fp2) (D1 : ∀ A : Around, A.handled = none → Draws prog w A i1 fp1 n1 P1 St1) (D2 : ∀ A : Around, A.handled = none → Draws prog w A i2 fp2 n2 P2 St2) (hA : A.handled = none)
    (hz : IsZipHeld s.heap z TI TO T f) (hT : s.heap.get? T = some oT) (hTI : IsTupOf2 s.heap TI (.ref i1) (.ref i2)) (st1 : St1 i s.heap) (st2 : St2 i s.heap) (hlt1 : i < n1) (hlt2 : i < n2)
    (hQ : ∀ x1 x2 h' tk, P1 i x1 → P2 i x2 → IsZipHeld h' z TI TO T true → St1 (i + 1) h' → St2 (i + 1) h' → IsTupOf2 h' s.heap.objs.size x1 x2 → h'.objs.size = s.heap.objs.size + 1 →
      (∀ c o, c ≠ z → c ≠ i1 → c ≠ i2 → s.heap.get? c = some o → h'.get? c = some o) → Q (some (.ref s.heap.objs.size)) { s with heap := h', toks := tk }) :
    wpAny (model prog w) A (pyNext (.ref z)) Q E s := by
  have hTy : s.TypeIs (.ref z) "zip" := ⟨_, hz, rfl⟩
  unfold pyNext
  refine wpAny_bind (wpAny_attempt (wpAny_callSpecial?_slot (name := Str.ofString "__next__") hTy F.slot_zip_next (wpAny_call_entry F.slot_zip_next hTy F.entry_zip_next ?_ (F.args_zip_next_1 _))))
  have d1 := D1 A.in1 hA
  have d2 := D2 A.in1 hA
  obtain ⟨hp, g, d, tk0, os⟩ := s
  show wpAny _ _ (field (.ref z) 2 >>= _) _ _ _
  refine wpAny_bind (wpAny_field hz rfl (x := .bool false) rfl ?_)
  show wpAny _ _ (field (.ref z) 3 >>= _) _ _ _
  refine wpAny_bind (wpAny_field hz rfl (x := .ref TI) rfl (wpAny_bind (wpAny_seqItems hTI rfl ?_)))
  show wpAny _ _ (Builtin.SmallTypes.ownedTupleIsFree (.ref z) >>= _) _ _ _
  refine wpAny_bind (wpAny_tupleHeld_zip (f := f) hz hT fun g0 hz0 hs0 => ?_)
  replace hs0 : Heap.SameBut z hp g0 := hs0
  simp only [Bool.false_eq_true, if_false]
  refine wpAny_bind ?_
  rw [← Array.forIn_toList]
  simp only [List.forIn_cons, List.forIn_nil]
  refine wpAny_bind (wpAny_bind (wpAny_holding ?_))
  show wpAny _ _ (Builtin.SmallTypes.nextOf (.ref i1) >>= _) _ _ ⟨g0, g, d, tk0, os⟩
  refine wpAny_bind (d1.item i ⟨g0, g, d, tk0, os⟩ _ _ hlt1 (d1.over st1 hs0 S.zf1) fun x1 p1 tk1 hx1 sn1 hp1 => wpAny_pure (wpAny_pure ?_))
  replace hp1 : Heap.SameBut i1 g0 p1 := hp1
  refine wpAny_bind (wpAny_bind (wpAny_holding ?_))
  show wpAny _ _ (Builtin.SmallTypes.nextOf (.ref i2) >>= _) _ _ ⟨p1, g, d, tk1, os⟩
  refine wpAny_bind (d2.item i ⟨p1, g, d, tk1, os⟩ _ _ hlt2 (d2.over (d2.over st2 hs0 S.zf2) hp1 S.sep1_2) fun x2 p2 tk2 hx2 sn2 hp2 => wpAny_pure (wpAny_pure (wpAny_pure ?_)))
  replace hp2 : Heap.SameBut i2 p1 p2 := hp2
  show wpAny _ _ (newTuple [x1, x2] >>= _) _ _ ⟨p2, g, d, tk2, os⟩
  refine wpAny_bind (wpAny_newTuple (wpAny_pure ⟨_, rfl, wpAny_pure ?_⟩))
  have hsz : p2.objs.size = hp.objs.size := by rw [hp2.1, hp1.1, hs0.1]
  show Q (some (.ref p2.objs.size)) ⟨p2.push { cls := .type "tuple", data := .seq #[x1, x2] }, g, d, tk2, os⟩
  have up : ∀ c o, p2.get? c = some o → (p2.push { cls := .type "tuple", data := .seq #[x1, x2] }).get? c = some o := fun c o e => Heap.get?_push_of_some _ e
  have hpair : IsTupOf2 (p2.push { cls := .type "tuple", data := .seq #[x1, x2] }) p2.objs.size x1 x2 := Heap.get?_push_size _ rfl
  have hnew : (p2.push { cls := .type "tuple", data := .seq #[x1, x2] }).objs.size = p2.objs.size + 1 := Heap.size_push ..
  have k1 := hQ x1 x2 (p2.push { cls := .type "tuple", data := .seq #[x1, x2] }) tk2 hx1 hx2 (up _ _ (hp2.extBut _ _ S.zi2 (hp1.extBut _ _ S.zi1 hz0)))
    (d1.frame _ _ _ (d1.over sn1 hp2 S.sep2_1) fun b _ o e => up b o e) (d2.frame _ _ _ sn2 fun b _ o e => up b o e)
  rw [hsz] at hpair hnew ⊢
  exact k1 hpair hnew fun c o c1 c2 c3 e => up c o (hp2.extBut _ _ c3 (hp1.extBut _ _ c2 (hs0.extBut _ _ c1 e)))
theorem held_end {A : Around} {E : Value → Shared → Prop} {s : Shared} {i : Nat} {T : Addr} {f : Bool} {oT : Obj} {Q : Option Value → Shared → Prop} (S : ZipSep2 z TI TO i1 i2 fp1 fp2) (D1 : ∀ A : Around, A.handled = none → Draws prog w A i1 fp1 n1 P1 St1) (D2 : ∀ A : Around, A.handled = none → Draws prog w A i2 fp2 n2 P2 St2) (hA : A.handled = none)
    (hz : IsZipHeld s.heap z TI TO T f) (hT : s.heap.get? T = some oT) (hTI : IsTupOf2 s.heap TI (.ref i1) (.ref i2)) (st1 : St1 i s.heap) (st2 : St2 i s.heap) (hle1 : i ≤ n1) (hle2 : i ≤ n2) (hend : i = n1 ∨ i = n2)
    (hQ : ∀ h' tk, (∀ c o, c ≠ z → c ≠ i1 → c ≠ i2 → s.heap.get? c = some o → h'.get? c = some o) → Q none { s with heap := h', toks := tk }) :
    wpAny (model prog w) A (pyNext (.ref z)) Q E s := by
  have hTy : s.TypeIs (.ref z) "zip" := ⟨_, hz, rfl⟩
  have d1 := D1 A.in1 hA
  have d2 := D2 A.in1 hA
  unfold pyNext
  obtain ⟨hp, g, d, tk0, os⟩ := s
  have stop : ∀ (q : Heap) (tk : Tok) (e : Addr), (∀ c o, c ≠ z → c ≠ i1 → c ≠ i2 → hp.get? c = some o → q.get? c = some o) → (∃ o, q.get? e = some o ∧ o.cls = .type "StopIteration") →
      wpAny (model prog w) A (isInstance (.ref e) (.type "StopIteration") >>= fun b => if b = true then pure none else throw (.ref e)) Q E ⟨q, g, d, tk, os⟩ := by
    rintro q tk e hk ⟨o, ho, hc⟩
    exact wpAny_bind (wpAny_isInstance (T := "StopIteration") (b := true) ⟨o, ho, hc⟩ isSubtype_stop (wpAny_pure (hQ q tk hk)))
  refine wpAny_bind (wpAny_attempt (wpAny_callSpecial?_slot (name := Str.ofString "__next__") hTy F.slot_zip_next (wpAny_call_entry F.slot_zip_next hTy F.entry_zip_next ?_ (F.args_zip_next_1 _))))
  show wpAny _ _ (field (.ref z) 2 >>= _) _ _ _
  refine wpAny_bind (wpAny_field hz rfl (x := .bool false) rfl ?_)
  show wpAny _ _ (field (.ref z) 3 >>= _) _ _ _
  refine wpAny_bind (wpAny_field hz rfl (x := .ref TI) rfl (wpAny_bind (wpAny_seqItems hTI rfl ?_)))
  show wpAny _ _ (Builtin.SmallTypes.ownedTupleIsFree (.ref z) >>= _) _ _ _
  refine wpAny_bind (wpAny_tupleHeld_zip (f := f) hz hT fun g0 hz0 hs0 => ?_)
  replace hs0 : Heap.SameBut z hp g0 := hs0
  simp only [Bool.false_eq_true, if_false]
  refine wpAny_bind ?_
  rw [← Array.forIn_toList]
  simp only [List.forIn_cons, List.forIn_nil]
  by_cases h1 : i < n1
  · refine wpAny_bind (wpAny_bind (wpAny_holding ?_))
    show wpAny _ _ (Builtin.SmallTypes.nextOf (.ref i1) >>= _) _ _ ⟨g0, g, d, tk0, os⟩
    refine wpAny_bind (d1.item i ⟨g0, g, d, tk0, os⟩ _ _ h1 (d1.over st1 hs0 S.zf1) fun x1 p1 tk1 hx1 sn1 hp1 => wpAny_pure (wpAny_pure ?_))
    replace hp1 : Heap.SameBut i1 g0 p1 := hp1
    have h2 : i = n2 := by omega
    refine wpAny_bind (wpAny_bind (wpAny_holding ?_))
    show wpAny _ _ (Builtin.SmallTypes.nextOf (.ref i2) >>= _) _ _ ⟨p1, g, d, tk1, os⟩
    refine wpAny_bind (d2.done ⟨p1, g, d, tk1, os⟩ _ _ (by rw [← h2]; exact d2.over (d2.over st2 hs0 S.zf2) hp1 S.sep1_2) fun q e hq he => ?_)
    exact stop q tk1 e (fun c o c1 c2 c3 x => hq _ _ c3 (hp1.extBut _ _ c2 (hs0.extBut _ _ c1 x))) he
  · have h2 : i = n1 := by omega
    refine wpAny_bind (wpAny_bind (wpAny_holding ?_))
    show wpAny _ _ (Builtin.SmallTypes.nextOf (.ref i1) >>= _) _ _ ⟨g0, g, d, tk0, os⟩
    refine wpAny_bind (d1.done ⟨g0, g, d, tk0, os⟩ _ _ (by rw [← h2]; exact d1.over st1 hs0 S.zf1) fun q e hq he => ?_)
    exact stop q tk0 e (fun c o c1 c2 c3 x => hq _ _ c2 (hs0.extBut _ _ c1 x)) he
theorem big {a b N : Nat} (h1 : a < N) (h2 : N ≤ b) : b ≠ a := Nat.ne_of_gt (Nat.lt_of_lt_of_le h1 h2)
/-- how the zip itself stands: no pair is out, or the first one is still held -/
def ZAt (z TI TO N0 : Nat) (i : Nat) (h : Heap) : Prop := (i = 0 ∧ IsZip h z TI TO .none ∧ ∃ a b, IsTupOf2 h TO a b) ∨ (∃ T f oT, N0 ≤ T ∧ h.get? T = some oT ∧ IsZipHeld h z TI TO T f)
def Made (P1 P2 : Nat → Value → Prop) (N0 : Nat) (h : Heap) (acc : Array Value) : Prop := (∀ j v, acc[j]? = some v → ∃ b x1 x2, v = .ref b ∧ N0 ≤ b ∧ P1 j x1 ∧ P2 j x2 ∧ IsTupOf2 h b x1 x2) ∧ ∀ (j k : Nat) (b c : Addr), j < k → acc[j]? = some (Value.ref b) → acc[k]? = some (Value.ref c) → b < c
theorem ext_zip {A : Around} {R : Result → Shared → Prop} (S : ZipSep2 z TI TO i1 i2 fp1 fp2) (D1 : ∀ A : Around, A.handled = none → Draws prog w A i1 fp1 n1 P1 St1) (D2 : ∀ A : Around, A.handled = none → Draws prog w A i2 fp2 n2 P2 St2) (hA : A.handled = none) (hn : min n1 n2 ≤ sizeLine)
    {L N0 : Addr} (Lz : L ≠ z) (LTI : L ≠ TI) (LTO : L ≠ TO) (L1 : L ∉ fp1) (L2 : L ∉ fp2) (zN : z < N0) (TIN : TI < N0) (TON : TO < N0) (i1N : i1 < N0) (i2N : i2 < N0) (LN : L < N0) (res : Value) :
    ∀ (k i : Nat) (s : Shared) (acc : Array Value) (c : Nat), min n1 n2 - i = k → i ≤ min n1 n2 → N0 ≤ s.heap.objs.size → ZAt z TI TO N0 i s.heap → IsTupOf2 s.heap TI (.ref i1) (.ref i2) → St1 i s.heap → St2 i s.heap →
    s.heap.get? L = some { cls := .type "list", dict := none, data := .seq acc c, slots := #[] } → acc.size = i → Made P1 P2 N0 s.heap acc →
    (∀ h' tk acc' c', (∀ b o, b < N0 → b ≠ z → b ≠ TO → b ≠ i1 → b ≠ i2 → b ≠ L → s.heap.get? b = some o → h'.get? b = some o) → h'.get? L = some { cls := .type "list", dict := none, data := .seq acc' c', slots := #[] } →
      acc'.size = min n1 n2 → Made P1 P2 N0 h' acc' → R (.ok (.ret res)) { s with heap := h', toks := tk }) →
    codeAny (model prog w) A (.builtin "list.extend.loop" ⟨[.ref L, .ref z, res], []⟩) R s := by
  have Li1 : L ≠ i1 := fun e => L1 (e ▸ S.mem1)
  have Li2 : L ≠ i2 := fun e => L2 (e ▸ S.mem2)
  intro k
  induction k with
  | zero =>
    intro i s acc c hk hi hN hZ hTI st1 st2 hL hsz hM hR
    have hin : i = min n1 n2 := by omega
    refine codeAny_builtin F.entry_extend_loop ?_
    rw [Around.under_plainId F.plain_extend_loop _]
    show wpAny _ A.in1 (pyNext (.ref z) >>= _) _ _ s
    have go : ∀ h' tk, (∀ c o, c ≠ z → c ≠ TO → c ≠ i1 → c ≠ i2 → s.heap.get? c = some o → h'.get? c = some o) → R (.ok (.ret res)) { s with heap := h', toks := tk } := fun h' tk hk' => by
      refine hR h' tk acc c (fun b o _ b1 b2 b3 b4 _ e => hk' b o b1 b2 b3 b4 e) (hk' _ _ Lz LTO Li1 Li2 hL) (by omega) ⟨fun j v e => ?_, hM.2⟩
      obtain ⟨b, x1, x2, ev, hb, p1, p2, ht⟩ := hM.1 j v e
      exact ⟨b, x1, x2, ev, hb, p1, p2, hk' _ _ (big zN hb) (big TON hb) (big i1N hb) (big i2N hb) ht⟩
    rcases hZ with ⟨e0, hz, a, b, hTO⟩ | ⟨T, f, oT, hTN, hT, hz⟩
    · refine wpAny_bind (wpAny_pyNext_zipD2_end S (D1 A.in1.in1 hA) (D2 A.in1.in1 hA) hz hTI hTO st1 st2 (by omega) (by omega) (by omega) fun h' tk hk' => wpAny_pure (go h' tk hk'))
    · refine wpAny_bind (held_end (A := A.in1) S D1 D2 hA hz hT hTI st1 st2 (by omega) (by omega) (by omega) fun h' tk hk' => wpAny_pure (go h' tk fun c o c1 _ c3 c4 e => hk' c o c1 c3 c4 e))
  | succ k ih =>
    intro i s acc c hk hi hN hZ hTI st1 st2 hL hsz hM hR
    have hlt : i < min n1 n2 := by omega
    refine codeAny_builtin F.entry_extend_loop ?_
    rw [Around.under_plainId F.plain_extend_loop _]
    show wpAny _ A.in1 (pyNext (.ref z) >>= _) _ _ s
    have go : ∀ x1 x2 h' tk, P1 i x1 → P2 i x2 → (∃ T f oT, N0 ≤ T ∧ h'.get? T = some oT ∧ IsZipHeld h' z TI TO T f) → St1 (i + 1) h' → St2 (i + 1) h' → IsTupOf2 h' s.heap.objs.size x1 x2 → h'.objs.size = s.heap.objs.size + 1 →
        (∀ c o, c ≠ z → c ≠ TO → c ≠ i1 → c ≠ i2 → s.heap.get? c = some o → h'.get? c = some o) →
        wpAny (model prog w) A.in1 (updateSeq L (·.push (.ref s.heap.objs.size)) >>= fun _ => again (.builtin "list.extend.loop" ⟨[.ref L, .ref z, res], []⟩)) (fun fin s' => match fin with | .done f => R (.ok f) s' | .again c' => c'.quiet = true ∧ codeAny (model prog w) A c' R s') (fun e s' => R (.error e) s') { s with heap := h', toks := tk } := by
      intro x1 x2 h' tk q1 q2 hz' sn1 sn2 hpair hs' hk'
      have hL' := hk' _ _ Lz LTO Li1 Li2 hL
      refine wpAny_bind (wpAny_updateSeq (s := { s with heap := h', toks := tk }) hL' rfl (wpAny_pure ⟨plainId_quiet F.plain_extend_loop _, ?_⟩) (by rw [hsz]; omega) (by show (acc.push _).size ≤ sizeLine + 1; rw [Array.size_push, hsz]; omega))
      have up : ∀ b o, b ≠ L → h'.get? b = some o → (h'.update L (Obj.mapSeq (·.push (.ref s.heap.objs.size)))).get? b = some o := fun b o hb e => (Heap.get?_update_other _ _ (Ne.symm hb)).trans e
      have hTI' := up _ _ (Ne.symm LTI) (hk' _ _ S.TIz S.TITO S.TIi1 S.TIi2 hTI)
      refine ih (i + 1) { s with heap := h'.update L (Obj.mapSeq (·.push (.ref s.heap.objs.size))), toks := tk } (acc.push (.ref s.heap.objs.size)) _ (by omega) hlt ?_ (.inr ?_) hTI' ?_ ?_ (Heap.get?_update_self _ hL' rfl) (by rw [Array.size_push, hsz]) ?_ ?_
      · show N0 ≤ (h'.update L _).objs.size
        rw [Heap.size_update, hs']; exact Nat.le_succ_of_le hN
      · obtain ⟨T, f, oT, hTN, hT, hz⟩ := hz'
        exact ⟨T, f, oT, hTN, up _ _ (big LN hTN) hT, up _ _ (Ne.symm Lz) hz⟩
      · exact (D1 A.in1 hA).frame _ _ _ sn1 fun b hb o e => up b o (fun q => L1 (q ▸ hb)) e
      · exact (D2 A.in1 hA).frame _ _ _ sn2 fun b hb o e => up b o (fun q => L2 (q ▸ hb)) e
      · refine ⟨fun j v e => ?_, fun j k b d hjk e1 e2 => ?_⟩
        rotate_left
        · rw [Array.getElem?_push] at e1 e2
          split at e1
          · rename_i ej
            have hk2 : k < acc.size := by
              split at e2
              · rename_i ek; omega
              · exact (Array.getElem?_eq_some_iff.mp e2).1
            omega
          · split at e2
            · rename_i ek
              cases e2
              obtain ⟨b', x1', x2', ev, hb, p1, p2, ht⟩ := hM.1 j _ e1
              cases ev
              exact Heap.lt_size ht
            · exact hM.2 j k b d hjk e1 e2
        rw [Array.getElem?_push] at e
        split at e
        · rename_i ej
          cases e
          rw [hsz] at ej
          subst ej
          exact ⟨_, x1, x2, rfl, hN, q1, q2, up _ _ (big LN hN) hpair⟩
        · obtain ⟨b, y1, y2, ev, hb, p1, p2, ht⟩ := hM.1 j v e
          exact ⟨b, y1, y2, ev, hb, p1, p2, up _ _ (big LN hb) (hk' _ _ (big zN hb) (big TON hb) (big i1N hb) (big i2N hb) ht)⟩
      · intro h'' tk'' acc' c' hk'' hL'' hsz'' hM''
        exact hR h'' tk'' acc' c' (fun b o hb b1 b2 b3 b4 b5 e => hk'' b o hb b1 b2 b3 b4 b5 (up _ _ b5 (hk' _ _ b1 b2 b3 b4 e))) hL'' hsz'' hM''
    rcases hZ with ⟨e0, hz, a, b, hTO⟩ | ⟨T, f, oT, hTN, hT, hz⟩
    · exact wpAny_bind (wpAny_pyNext_zipD2_item S (D1 A.in1.in1 hA) (D2 A.in1.in1 hA) hz hTI hTO st1 st2 (by omega) (by omega) fun x1 x2 h' tk q1 q2 hz' _ sn1 sn2 hp hs' hk' => go x1 x2 h' tk q1 q2 ⟨_, false, _, hN, hp, hz'⟩ sn1 sn2 hp hs' hk')
    · exact wpAny_bind (held_item (A := A.in1) S D1 D2 hA hz hT hTI st1 st2 (by omega) (by omega) fun x1 x2 h' tk q1 q2 hz' sn1 sn2 hp hs' hk' => go x1 x2 h' tk q1 q2 ⟨T, true, oT, hTN, hk' _ _ (big zN hTN) (big i1N hTN) (big i2N hTN) hT, hz'⟩ sn1 sn2 hp hs' fun c o c1 _ c3 c4 e => hk' c o c1 c3 c4 e)
end
end My

set_option Elab.async false
set_option linter.all false
set_option maxRecDepth 100000
set_option maxHeartbeats 4000000
namespace My
open PySem PySem.W
open PySem.Sem (wp)
theorem zip_no_len : typeLookup (.type "zip") "__len__" = pure none := by rw [typeLookup_type, builtinLookup_eq_fast]; kernel_rfl
theorem zip_no_hint : typeLookup (.type "zip") "__length_hint__" = pure none := by rw [typeLookup_type, builtinLookup_eq_fast]; kernel_rfl
section
variable {prog : Program} {w : World} {z TI TO i1 i2 : Addr} {fp1 fp2 : List Addr} {n1 n2 : Nat} {P1 P2 : Nat → Value → Prop} {St1 St2 : Nat → Heap → Prop}
/-- list(z) of a zip of which nothing was drawn yet -/
theorem list_zip {A : Around} {E : Value → Shared → Prop} {s : Shared} {Q : Value → Shared → Prop} (S : ZipSep2 z TI TO i1 i2 fp1 fp2) (D1 : ∀ A : Around, A.handled = none → Draws prog w A i1 fp1 n1 P1 St1) (D2 : ∀ A : Around, A.handled = none → Draws prog w A i2 fp2 n2 P2 St2) (hA : A.handled = none) (hn : min n1 n2 ≤ sizeLine)
    {a b : Value} (hz : IsZip s.heap z TI TO .none) (hTI : IsTupOf2 s.heap TI (.ref i1) (.ref i2)) (hTO : IsTupOf2 s.heap TO a b) (st1 : St1 0 s.heap) (st2 : St2 0 s.heap) (f1 : ∀ c ∈ fp1, c < s.heap.objs.size) (f2 : ∀ c ∈ fp2, c < s.heap.objs.size)
    (hQ : ∀ h' tk acc c', (∀ b o, b < s.heap.objs.size → b ≠ z → b ≠ TO → b ≠ i1 → b ≠ i2 → s.heap.get? b = some o → h'.get? b = some o) → h'.get? s.heap.objs.size = some { cls := .type "list", dict := none, data := .seq acc c', slots := #[] } →
      acc.size = min n1 n2 → Made P1 P2 (s.heap.objs.size + 1) h' acc → Q (.ref s.heap.objs.size) { s with heap := h', toks := tk }) :
    wpAny (model prog w) A (call (.type "list") [.ref z]) Q E s := by
  refine callType_codes (Q₁ := fun obj s₁ => obj = .ref s.heap.objs.size ∧ s₁ = { s with heap := s.heap.push { cls := .type "list", data := .seq #[] } }) PySem.F.called_list (PySem.F.typeCall_list_1 _) PySem.F.entry_list_init
    (code_list_new _ ⟨rfl, rfl⟩) fun obj s₁ h₁ => ?_
  obtain ⟨rfl, rfl⟩ := h₁
  have zN : z < s.heap.objs.size := Heap.lt_size hz
  have TIN : TI < s.heap.objs.size := Heap.lt_size hTI
  have TON : TO < s.heap.objs.size := Heap.lt_size hTO
  have i1N := f1 _ S.mem1
  have i2N := f2 _ S.mem2
  generalize hL : s.heap.objs.size = L at *
  have hS : (s.heap.push { cls := .type "list", data := .seq #[] }).get? L = some { cls := .type "list", data := .seq #[] } := by rw [← hL]; exact Heap.get?_push_size _ rfl
  have hS1 : (s.heap.push { cls := .type "list", data := .seq #[] }).objs.size = L + 1 := by rw [Heap.size_push, hL]
  refine ⟨⟨_, hS, rfl⟩, PySem.F.args_list_init_2 _ _, ?_⟩
  have key : ∀ (h : Heap) (c₁ : Nat) (tk : Tok), h.objs.size = L + 1 → (∀ b o, b ≠ L → s.heap.get? b = some o → h.get? b = some o) → h.get? L = some { cls := .type "list", data := .seq #[] c₁ } →
      codeAny (model prog w) A.in1 (.builtin "list.extend.loop" ⟨[.ref L, .ref z, .none], []⟩) (wants (fun r s₂ => r = Value.none ∧ Q (.ref L) s₂) E) { s with heap := h, toks := tk } := by
    intro h c₁ tk hsz hk hS₁
    have ne : ∀ {c : Addr}, c < L → c ≠ L := fun q => Nat.ne_of_lt q
    refine ext_zip (A := A.in1) (N0 := L + 1) S D1 D2 hA hn (Nat.ne_of_gt zN) (Nat.ne_of_gt TIN) (Nat.ne_of_gt TON) (fun q => Nat.lt_irrefl _ (f1 _ q)) (fun q => Nat.lt_irrefl _ (f2 _ q)) (Nat.lt_succ_of_lt zN) (Nat.lt_succ_of_lt TIN) (Nat.lt_succ_of_lt TON) (Nat.lt_succ_of_lt i1N) (Nat.lt_succ_of_lt i2N) (Nat.lt_succ_self L) .none
      (min n1 n2) 0 { s with heap := h, toks := tk } #[] c₁ rfl (Nat.zero_le _) (Nat.le_of_eq hsz.symm) (.inl ⟨rfl, hk _ _ (ne zN) hz, a, b, hk _ _ (ne TON) hTO⟩) (hk _ _ (ne TIN) hTI)
      ((D1 A hA).frame _ _ _ st1 fun c hc o e => hk c o (ne (f1 c hc)) e) ((D2 A hA).frame _ _ _ st2 fun c hc o e => hk c o (ne (f2 c hc)) e) hS₁ rfl ⟨fun j v e => by simp at e, fun j k b d _ e _ => by simp at e⟩ ?_
    intro h' tk' acc' c' hk' hL' hsz' hM'
    exact ⟨rfl, hQ h' tk' acc' c' (fun b o hb b1 b2 b3 b4 e => hk' b o (Nat.lt_succ_of_lt hb) b1 b2 b3 b4 (ne hb) (hk _ _ (ne hb) e)) hL' hsz' hM'⟩
  show wpAny _ _ (do let old ← Builtin.List.listItems (.ref L); Builtin.List.listUpdate (.ref L) (fun _ => #[]); letGo old.toList.reverse; Builtin.List.listExtendWith (.ref L) (.ref z) .none) _ _ _
  refine wpAny_bind ?_
  unfold Builtin.List.listItems
  refine wpAny_bind (wpAny_seqItems hS rfl (wpAny_pure ?_))
  show wpAny _ _ (updateSeq L (fun _ => #[]) >>= fun _ => letGo (#[] : Array Value).toList.reverse >>= fun _ => Builtin.List.listExtendWith (.ref L) (.ref z) .none) _ _ _
  refine wpAny_bind (wpAny_updateSeq hS rfl (wpAny_bind (wpAny_letGo ?_)))
  have u1 := Heap.get?_update_self (Obj.mapSeq (fun _ => (#[] : Array Value))) hS rfl
  have k1 : ∀ b o, b ≠ L → s.heap.get? b = some o → ((s.heap.push { cls := .type "list", data := .seq #[] }).update L (Obj.mapSeq (fun _ => (#[] : Array Value)))).get? b = some o :=
    fun b o hb e => (Heap.get?_update_other _ _ (Ne.symm hb)).trans (Heap.get?_push_of_some _ e)
  have z1 : ((s.heap.push { cls := .type "list", data := .seq #[] }).update L (Obj.mapSeq (fun _ => (#[] : Array Value)))).objs.size = L + 1 := by rw [Heap.size_update, hS1]
  generalize ((s.heap.push { cls := .type "list", data := .seq #[] }).update L (Obj.mapSeq (fun _ => (#[] : Array Value)))) = g1 at u1 k1 z1 ⊢
  have hT : ∀ (h : Heap) (tk : Tok), (∀ b o, b ≠ L → s.heap.get? b = some o → h.get? b = some o) → Shared.TypeIs { s with heap := h, toks := tk } (.ref z) "zip" := fun h tk hk => ⟨_, hk _ _ (Nat.ne_of_lt zN) hz, rfl⟩
  unfold Builtin.List.listExtendWith
  refine wpAny_bind (wpAny_typeOf (hT g1 s.toks k1) ?_)
  have e1 : Builtin.List.listSameRef (.ref L) (.ref z) = false := by simp [Builtin.List.listSameRef, Nat.ne_of_gt zN]
  have e2 : (Value.type "zip" == Value.type "list") = false := by decide
  have e3 : (Value.type "zip" == Value.type "tuple") = false := by decide
  simp only [e1, e2, e3, Bool.or_false, Bool.false_eq_true, if_false]
  refine wpAny_bind (wpAny_pyIter_zip (k1 _ _ (Nat.ne_of_lt zN) hz) ?_)
  refine wpAny_bind (wpAny_holding ?_)
  unfold Builtin.List.listLengthHint
  refine wpAny_bind (wpAny_specialOf (hT g1 s.toks k1) zip_no_len ?_)
  show wpAny _ _ (specialOf (Value.ref z) (Str.ofString "__length_hint__") >>= _) _ _ _
  refine wpAny_bind (wpAny_specialOf (hT g1 s.toks k1) zip_no_hint (wpAny_pure ?_))
  show wpAny _ _ (rule "list.extend.makes-room" >>= fun _ => Builtin.List.listTouch (.ref L) >>= fun _ => again (.builtin "list.extend.loop" ⟨[.ref L, .ref z, .none], []⟩)) _ _ _
  refine wpAny_bind (wpAny_rule (wpAny_bind ?_))
  show wpAny _ _ (updateSeq L (·.push .none) >>= fun _ => updateSeq L (·.pop)) _ _ _
  refine wpAny_bind (wpAny_updateSeq u1 rfl ?_)
  have u2 := Heap.get?_update_self (Obj.mapSeq (·.push Value.none)) u1 rfl
  refine wpAny_updateSeq (hz := by seq_fits) u2 rfl ?_
  have u3 := Heap.get?_update_self (Obj.mapSeq (·.pop)) u2 rfl
  exact wpAny_pure ⟨plainId_quiet F.plain_extend_loop _, key _ _ _ (by rw [Heap.size_update, Heap.size_update, z1]) (fun b o hb e => (Heap.get?_update_other _ _ (Ne.symm hb)).trans ((Heap.get?_update_other _ _ (Ne.symm hb)).trans (k1 b o hb e))) u3⟩
end
end My

set_option Elab.async false
set_option linter.all false
set_option maxRecDepth 100000
set_option maxHeartbeats 4000000
namespace My
open PySem PySem.W PySem.Spec PyProof.Rows L2
def putT (H : Hp) : List Addr → List V → List V → Hp
  | t :: ts, x :: xs, y :: ys => upd (putT H ts xs ys) t (.tup [x, y])
  | _, _, _ => H
theorem putT_old {H : Hp} {b : Addr} : ∀ {ts : List Addr} {xs ys : List V}, b ∉ ts → putT H ts xs ys b = H b
  | [], _, _, _ => rfl
  | _ :: _, [], _, _ => rfl
  | _ :: _, _ :: _, [], _ => rfl
  | t :: ts, x :: xs, y :: ys, h => by
    have e : b ≠ t := fun e => h (by rw [e]; exact List.mem_cons_self)
    rw [putT, upd_ne e]
    exact putT_old fun q => h (List.mem_cons_of_mem _ q)
theorem putT_inv {H : Hp} {b : Addr} {o : HO} : ∀ {ts : List Addr} {xs ys : List V}, putT H ts xs ys b = some o → H b = some o ∨ ∃ (j : Nat) (x y : V), ts[j]? = some b ∧ xs[j]? = some x ∧ ys[j]? = some y ∧ o = .tup [x, y]
  | [], _, _, h => .inl h
  | _ :: _, [], _, h => .inl h
  | _ :: _, _ :: _, [], h => .inl h
  | t :: ts, x :: xs, y :: ys, h => by
    rw [putT] at h
    by_cases e : b = t
    · subst e
      rw [upd_same] at h
      exact .inr ⟨0, x, y, rfl, rfl, rfl, (Option.some.inj h).symm⟩
    · rw [upd_ne e] at h
      rcases putT_inv h with q | ⟨j, u, v, q1, q2, q3, q4⟩
      · exact .inl q
      · exact .inr ⟨j + 1, u, v, q1, q2, q3, q4⟩
theorem putT_at {H : Hp} : ∀ {ts : List Addr} {xs ys : List V} {j : Nat} {t : Addr} {x y : V}, ts.Pairwise (· < ·) → ts[j]? = some t → xs[j]? = some x → ys[j]? = some y → putT H ts xs ys t = some (.tup [x, y])
  | [], _, _, _, _, _, _, _, h, _, _ => by simp at h
  | _ :: _, [], _, _, _, _, _, _, _, h, _ => by simp at h
  | _ :: _, _ :: _, [], _, _, _, _, _, _, _, h => by simp at h
  | t :: ts, x :: xs, y :: ys, 0, _, _, _, _, h1, h2, h3 => by
    simp only [List.getElem?_cons_zero, Option.some.injEq] at h1 h2 h3
    rw [putT, h1, h2, h3, upd_same]
  | t :: ts, x :: xs, y :: ys, j + 1, t', _, _, p, h1, h2, h3 => by
    rw [List.pairwise_cons] at p
    rw [putT, upd_ne (Nat.ne_of_gt (p.1 t' (List.mem_of_getElem? (by simpa using h1))))]
    exact putT_at p.2 (by simpa using h1) (by simpa using h2) (by simpa using h3)
theorem refs_of : ∀ l : List Value, (∀ v ∈ l, ∃ b : Addr, v = .ref b) → ∃ ts : List Addr, l = ts.map Value.ref
  | [], _ => ⟨[], rfl⟩
  | v :: l, h => by
    obtain ⟨b, rfl⟩ := h v List.mem_cons_self
    obtain ⟨ts, rfl⟩ := refs_of l fun u hu => h u (List.mem_cons_of_mem _ hu)
    exact ⟨b :: ts, rfl⟩
/-- the abstract heap behind list(zip(..)) -/
def zipH (H : Hp) (L : Addr) (ts : List Addr) (xs ys : List V) : Hp := upd (putT H ts xs ys) L (.lst (ts.map V.ref))
def tLstZip (K : PySem.W.Frag) (ta : TA) : TE := fun σ H Q => ta σ H fun vs H1 => ∃ a b xs ys, vs = [.ref a, .ref b] ∧ SqT K H1 a xs ∧ SqT K H1 b ys ∧
  ∀ (q : Addr) (ts : List Addr) (H2 : Hp), Same H1 H2 → H2 q = some (.lst (ts.map V.ref)) → ts.length = min xs.length ys.length → (∀ (j : Nat) (t : Addr) (x y : V), ts[j]? = some t → xs[j]? = some x → ys[j]? = some y → H2 t = some (.tup [x, y])) → Q (.ref q) H2
theorem pe_listZip {X : Cx} {e e2 : Expr} {ta : TA} {p p2 pos pos2 : Pos} (hc : X.calm = true) (hg : Gl X "list") (hm : X.mg "list" = none) (hgz : Gl X "zip") (hmz : X.mg "zip" = none) (ha : PA X [e, e2] ta)
    (hs : starEach [e, e2] X.env = (false, eval e X.env) :: starEach [e2] X.env := by rfl) (hpl : (backTo pos2 (starEach [e2] X.env)).any (·.1) = false := by rfl)
    (na : starEach [Expr.Call (.Name "zip" p2) [e, e2] [] pos2] X.env = (false, eval (.Call (.Name "zip" p2) [e, e2] [] pos2) X.env) :: starEach [] X.env := by rfl) :
    PE X (.Call (.Name "list" p) [.Call (.Name "zip" p2) [e, e2] [] pos2] [] pos) (tLstZip X.K ta) := by
  refine ⟨fun pins s σ H Q I h => ?_⟩
  have inner : wpAny (model X.prog X.w) X.A (eval (.Call (.Name "zip" p2) [e, e2] [] pos2) X.env) (fun x s' => ∃ (s1 : Shared) (h' : Heap) (H1 : Hp) (a b : Addr) (xs ys : List V) (its its2 : List Value),
      s' = { s1 with heap := h' } ∧ x = .ref (s1.heap.objs.size + 4) ∧ Inv X pins σ H1 s1 ∧ Vals xs its ∧ Vals ys its2 ∧ s1.heap.IsTuple a its.toArray ∧ s1.heap.IsTuple b its2.toArray ∧ its.length ≤ sizeLine ∧
      IsZip h' (s1.heap.objs.size + 4) (s1.heap.objs.size + 2) (s1.heap.objs.size + 3) .none ∧ IsPair h' (s1.heap.objs.size + 2) (.ref s1.heap.objs.size) (.ref (s1.heap.objs.size + 1)) ∧ IsPair h' (s1.heap.objs.size + 3) .none .none ∧
      h'.IsTupleIter s1.heap.objs.size a 0 ∧ h'.IsTupleIter (s1.heap.objs.size + 1) b 0 ∧ h'.objs.size = s1.heap.objs.size + 5 ∧ (∀ c o, s1.heap.get? c = some o → h'.get? c = some o) ∧
      ∀ (q : Addr) (ts : List Addr) (H2 : Hp), Same H1 H2 → H2 q = some (.lst (ts.map V.ref)) → ts.length = min xs.length ys.length → (∀ (j : Nat) (t : Addr) (x y : V), ts[j]? = some t → xs[j]? = some x → ys[j]? = some y → H2 t = some (.tup [x, y])) → Q (.ref q) H2) X.xe s := by
    refine Call_ (ld_blt I hgz hmz PyProof.Rows.boot_zip (PyProof.Rows.callWith_type1 (thn (ha.run pos2 pins s σ H _ I h) fun us s1 ⟨vs, H1, I1, r1, q1⟩ => ?_) hs hpl))
    obtain ⟨a, b, xs, ys, ex, hx, hy, q⟩ := q1
    subst ex
    cases r1 with
    | cons r rr =>
      cases rr with
      | cons r' rr =>
        cases rr
        cases r
        cases r'
        obtain ⟨its, rv, t1, z1⟩ := I1.tuple hx
        obtain ⟨its2, rv2, t2, _⟩ := I1.tuple hy
        have l1 := rv.length
        exact RZ.call_zipT (show s1.heap.IsTuple a its.toArray from t1) (show s1.heap.IsTuple b its2.toArray from t2) fun h' hz hTI hTO h1 h2 hsz hk => ⟨s1, h', H1, a, b, xs, ys, its, its2, rfl, rfl, I1, rv, rv2, t1, t2, by omega, hz, hTI, hTO, h1, h2, hsz, hk, q⟩
  refine Call_ (ld_blt I hg hm boot_list (PyProof.Rows.callWith_type1 (args_cons (thn inner fun x s' hx => args_nil ?_) na) na))
  obtain ⟨s1, h', H1, a, b, xs, ys, its, its2, rfl, rfl, I1, rv, rv2, t1, t2, hlen, hz, hTI, hTO, h1, h2, hsz, hk, q⟩ := hx
  obtain ⟨o1, g1, _⟩ := id t1
  obtain ⟨o2, g2, _⟩ := id t2
  have aN : a < s1.heap.objs.size := Heap.lt_size g1
  have bN : b < s1.heap.objs.size := Heap.lt_size g2
  have S := zip_sep2 (N := s1.heap.objs.size) (fp1 := [a]) (fp2 := [b]) (fun c hc => by rw [List.mem_singleton.mp hc]; exact aN) (fun c hc => by rw [List.mem_singleton.mp hc]; exact bN)
  have l1 := rv.length
  have l2 := rv2.length
  refine list_zip (s := { s1 with heap := h' }) S (fun A hh => Draws.tuple hh s1.heap.objs.size a (Nat.ne_of_lt aN) its.toArray) (fun A hh => Draws.tuple hh (s1.heap.objs.size + 1) b (Nat.ne_of_lt (Nat.lt_succ_of_lt bN)) its2.toArray) (I1.ok.hd hc)
    (by rw [List.size_toArray]; omega) hz hTI hTO ⟨h1, t1.at fun o e => hk _ o e⟩ ⟨h2, t2.at fun o e => hk _ o e⟩ ?_ ?_ ?_
  · intro c hc
    show c < h'.objs.size
    rw [hsz]
    rcases List.mem_cons.mp hc with e | e
    · rw [e]; exact Nat.lt_add_of_pos_right (by decide)
    · rw [List.mem_singleton.mp e]; exact Nat.lt_of_lt_of_le aN (Nat.le_add_right _ _)
  · intro c hc
    show c < h'.objs.size
    rw [hsz]
    rcases List.mem_cons.mp hc with e | e
    · rw [e]; exact Nat.add_lt_add_left (by decide) _
    · rw [List.mem_singleton.mp e]; exact Nat.lt_of_lt_of_le bN (Nat.le_add_right _ _)
  · intro hf tk acc c' keep hL hacc hM
    obtain ⟨ts, hts⟩ := refs_of acc.toList fun v hv => by
      obtain ⟨j, hj⟩ := List.getElem?_of_mem hv
      obtain ⟨t, _, _, ev, _⟩ := hM.1 j v (by rw [← Array.getElem?_toList]; exact hj)
      exact ⟨t, ev⟩
    have at_ : ∀ (j : Nat) (t : Addr), ts[j]? = some t → acc[j]? = some (Value.ref t) := fun j t e => by
      rw [← Array.getElem?_toList, hts, List.getElem?_map, e]; rfl
    have big' : ∀ (j : Nat) (t : Addr), ts[j]? = some t → h'.objs.size + 1 ≤ t := fun j t e => by
      obtain ⟨b', _, _, ev, hb, _⟩ := hM.1 j _ (at_ j t e)
      cases ev
      exact hb
    have inc : ts.Pairwise (· < ·) := by
      rw [List.pairwise_iff_getElem]
      intro i j hi hj hij
      exact hM.2 i j _ _ hij (at_ i _ (List.getElem?_eq_getElem hi)) (at_ j _ (List.getElem?_eq_getElem hj))
    have hlt : ts.length = min xs.length ys.length := by
      have e1 : ts.length = acc.toList.length := by rw [hts, List.length_map]
      rw [e1, Array.length_toList, hacc, List.size_toArray, List.size_toArray, l1, l2]
    have notL : h'.objs.size ∉ ts := fun q => by
      obtain ⟨j, hj⟩ := List.getElem?_of_mem q
      exact Nat.not_succ_le_self _ (big' j _ hj)
    have small : ∀ c : Addr, c < s1.heap.objs.size → zipH H1 h'.objs.size ts xs ys c = H1 c := fun c hc => by
      have c1 : c ≠ h'.objs.size := Nat.ne_of_lt (Nat.lt_of_lt_of_le hc (by rw [hsz]; exact Nat.le_add_right _ _))
      have c2 : c ∉ ts := fun q => by
        obtain ⟨j, hj⟩ := List.getElem?_of_mem q
        have g := big' j _ hj
        rw [hsz] at g
        exact absurd (Nat.lt_of_lt_of_le hc (Nat.le_trans (Nat.le_add_right _ 6) g)) (Nat.lt_irrefl _)
      unfold zipH
      rw [upd_ne c1, putT_old c2]
    have kk : ∀ c o, s1.heap.get? c = some o → hf.get? c = some o := fun c o e => by
      have hcN : c < s1.heap.objs.size := Heap.lt_size e
      have g : ∀ n : Nat, c ≠ s1.heap.objs.size + n := fun n => Nat.ne_of_lt (Nat.lt_of_lt_of_le hcN (Nat.le_add_right _ n))
      exact keep c o (by show c < h'.objs.size; rw [hsz]; exact Nat.lt_of_lt_of_le hcN (Nat.le_add_right _ 5)) (g 4) (g 3) (g 0) (g 1) (hk c o e)
    have old : ∀ c u, H1 c = some u → zipH H1 h'.objs.size ts xs ys c = some u := fun c u e => by rw [small c (I1.hok.lt e)]; exact e
    have hq : zipH H1 h'.objs.size ts xs ys h'.objs.size = some (.lst (ts.map V.ref)) := upd_same
    have hT : ∀ (j : Nat) (t : Addr) (x y : V), ts[j]? = some t → xs[j]? = some x → ys[j]? = some y → zipH H1 h'.objs.size ts xs ys t = some (.tup [x, y]) := fun j t x y e1 e2 e3 => by
      have ht : t ≠ h'.objs.size := Nat.ne_of_gt (big' j t e1)
      unfold zipH
      rw [upd_ne ht]
      exact putT_at inc e1 e2 e3
    refine ⟨.ref h'.objs.size, zipH H1 h'.objs.size ts xs ys, I1.un (t' := tk) (h' := hf) ⟨fun c o e _ _ _ => kk c o e, fun c o e _ _ _ => ⟨o.slots, kk c o e⟩, fun c o e n _ => by rw [small c (Heap.lt_size e)]; exact n, fun c o e _ => ⟨o, kk c o e⟩, fun c us e => old c _ e, fun c o u e => old c _ e, fun c ps e => ⟨#[], by rw [old c _ e]; simp⟩⟩ ?_, rfl, q _ ts _ old hq hlt hT⟩
    intro c u e
    by_cases hc' : c = h'.objs.size
    · subst hc'
      rw [hq] at e
      cases e
      refine ⟨by rw [List.length_map, hlt]; omega, acc.toList, c', ?_, by rw [Array.toArray_toList]; exact hL⟩
      rw [hts]
      exact vals_refs ts
    · unfold zipH at e
      rw [upd_ne hc'] at e
      rcases putT_inv e with e | ⟨j, x, y, j1, j2, j3, rfl⟩
      · exact (I1.hok c u e).stay (fun d v _ g => kk d v g) (fun d g => old d _ g) fun d us g => old d _ g
      · obtain ⟨b', x1, x2, ev, hb, p1, p2, ht⟩ := hM.1 j _ (at_ j c j1)
        cases ev
        obtain ⟨u1, w1, v1⟩ := rv.get j2
        obtain ⟨u2, w2, v2⟩ := rv2.get j3
        have e1 : u1 = x1 := Option.some.inj (w1.symm.trans (by simpa using p1))
        have e2 : u2 = x2 := Option.some.inj (w2.symm.trans (by simpa using p2))
        subst e1 e2
        exact ⟨by show 2 ≤ sizeLine; decide, [u1, u2], .cons v1 (.cons v2 .nil), ⟨_, ht, rfl, _, rfl⟩⟩
end My

set_option Elab.async false
set_option linter.all false
set_option maxRecDepth 100000
set_option maxHeartbeats 4000000
namespace My
open PySem PySem.W PySem.Spec PyProof.Rows L2
/-- zip of a text and a tuple as it stands -/
def ItzS (K : PySem.W.Frag) (x : Str) (b : Addr) (ys : List V) : It :=
  ⟨fun i H => SqT K H b ys ∧ i < x.cps.size ∧ i < ys.length,
    fun i H v H' => ∃ T c y, v = .ref T ∧ H T = none ∧ H' = upd H T (.tup [.str ⟨#[c]⟩, y]) ∧ x.cps[i]? = some c ∧ ys[i]? = some y,
    fun i H => SqT K H b ys ∧ (x.cps.size ≤ i ∨ ys.length ≤ i)⟩
theorem turn_zipS {P : Program} {w : World} {K : PySem.W.Frag} {elts : List Expr} {kk : Nat} {tpos : Pos} {N b : Addr} {x : Str} {t : Tok} {ys : List V} (bN : b < N) :
    Turn P w K (.Tuple elts kk tpos) (ItzS K x b ys) [N + 4, N + 2, N + 3, N, N + 1] (N + 4) (fun i h => IsZip h (N + 4) (N + 2) (N + 3) .none ∧ IsTupOf2 h (N + 2) (.ref N) (.ref (N + 1)) ∧ (∃ a1 a2, IsTupOf2 h (N + 3) a1 a2) ∧ h.IsStrIter N (strIterType x) x t i ∧ h.IsTupleIter (N + 1) b i ∧ i ≤ x.cps.size ∧ i ≤ ys.length) where
  mem := by simp
  obj := fun i h st c hc => by
    obtain ⟨hz, hTI, ⟨a1, a2, hTO⟩, ⟨o1, e1, _, d1⟩, ⟨o2, e2, _, d2⟩, _, _⟩ := st
    have e' : c = N + 4 ∨ c = N + 2 ∨ c = N + 3 ∨ c = N ∨ c = N + 1 := by simpa using hc
    rcases e' with q | q | q | q | q
    · rw [q]; exact ⟨_, hz, fun v q => nomatch q⟩
    · rw [q]; exact ⟨_, hTI, fun v q => nomatch q⟩
    · rw [q]; exact ⟨_, hTO, fun v q => nomatch q⟩
    · rw [q]; exact ⟨o1, e1, fun v q => by rw [d1] at q; cases q⟩
    · rw [q]; exact ⟨o2, e2, fun v q => by rw [d2] at q; cases q⟩
  keep := fun i h h' st k => by
    obtain ⟨hz, hTI, ⟨a1, a2, hTO⟩, ⟨o1, e1, r1⟩, h2, l1, l2⟩ := st
    exact ⟨k _ (by simp) _ hz, k _ (by simp) _ hTI, ⟨a1, a2, k _ (by simp) _ hTO⟩, ⟨o1, k _ (by simp) _ e1, r1⟩, h2.at fun o q => k _ (by simp) o q, l1, l2⟩
  item := by
    intro X hP hw hK hc i pins s σ H E I hf st hg
    subst hP hw hK
    obtain ⟨hz, hTI, ⟨a1, a2, hTO⟩, h1, h2, l1, l2⟩ := st
    obtain ⟨hqy, g1, g2⟩ := hg
    obtain ⟨its2, rv2, p2, _⟩ := I.tuple hqy
    have hl2 := rv2.length
    have S := zip_sep2 (N := N) (fp1 := []) (fp2 := [b]) (fun c hc => nomatch hc) (fun c hc => by rw [List.mem_singleton.mp hc]; exact bN)
    have d1 := Draws.text (prog := X.prog) (w := X.w) (A := X.A.in1) (I.ok.hd hc) N x t
    have d2 := Draws.tuple (prog := X.prog) (w := X.w) (A := X.A.in1) (I.ok.hd hc) (N + 1) b (Nat.ne_of_lt (Nat.lt_succ_of_lt bN)) its2.toArray
    refine wpAny_pyNext_zipD2_item S d1 d2 hz hTI hTO h1 ⟨h2, p2⟩ g1 (by rw [List.size_toArray]; omega) fun x1 x2 h' tk q1 q2 hz' hTO' s1 s2 hT hsz hk => ?_
    obtain ⟨c, u, hcx, rfl⟩ := q1
    have hzl : N + 4 < s.heap.objs.size := Heap.lt_size hz
    refine ⟨_, rfl, wpAny_letOwnedTupleGo_zip (s := { s with heap := h', toks := tk }) hz' fun h'' z'' sb => ?_⟩
    have sb : Heap.SameBut (N + 4) h' h'' := sb
    have hys : ys[i]? = some ys[i] := List.getElem?_eq_getElem g2
    obtain ⟨u2, hu2, ru2⟩ := rv2.get hys
    have e2 : u2 = x2 := Option.some.inj (hu2.symm.trans (by simpa using q2))
    subst e2
    have hT2 : h''.get? s.heap.objs.size = some { cls := .type "tuple", data := .seq #[.str ⟨#[c]⟩ u, u2] } := (sb.2 _ (Nat.ne_of_gt hzl)).trans hT
    have new : ObjOk X.prog X.w (upd H s.heap.objs.size (.tup [.str ⟨#[c]⟩, ys[i]])) h'' s.heap.objs.size (.tup [.str ⟨#[c]⟩, ys[i]]) :=
      ⟨by show 2 ≤ sizeLine; decide, [.str ⟨#[c]⟩ u, u2], .cons ⟨u, rfl⟩ (.cons ru2 .nil), ⟨_, hT2, rfl, _, rfl⟩⟩
    have I1 : Inv X pins σ (upd H s.heap.objs.size (.tup [.str ⟨#[c]⟩, ys[i]])) { s with heap := h'', toks := tk } :=
      I.turnedNew (t' := tk) (ch := [N + 4, N + 2, N + 3, N, N + 1]) (fun c o hb q => (sb.2 c (fun q' => hb (by simp [q']))).trans (hk c o (fun q' => hb (by simp [q'])) (fun q' => hb (by simp [q'])) (fun q' => hb (by simp [q'])) (fun q' => hb (by simp [q'])) q)) hf (Nat.le_refl _) new
    have ne : ∀ {a k : Nat}, a < k → N + a ≠ N + k := fun h => Nat.ne_of_lt (Nat.add_lt_add_left h _)
    have st' : h''.IsStrIter N (strIterType x) x t (i + 1) := let ⟨o, ho, r⟩ := s1; ⟨o, (sb.2 _ (ne (a := 0) (k := 4) (by decide))).trans ho, r⟩
    refine ⟨.ref s.heap.objs.size, _, I1, rfl, ⟨_, c, ys[i], rfl, I.hok.fresh (Nat.le_refl _), rfl, hcx, hys⟩, ⟨z'', ?_, ⟨.str ⟨#[c]⟩ u, u2, ?_⟩, st', ?_, g1, g2⟩, fun c' hcm => ?_⟩
    · exact (sb.2 _ S.TIz).trans (hk _ _ S.TIz S.TITO S.TIi1 S.TIi2 hTI)
    · exact (sb.2 _ S.TOz).trans hTO'
    · exact s2.1.at fun o q => (sb.2 _ (ne (a := 1) (k := 4) (by decide))).trans q
    · have hlt : c' < s.heap.objs.size := by
        have e' : c' = N + 4 ∨ c' = N + 2 ∨ c' = N + 3 ∨ c' = N ∨ c' = N + 1 := by simpa using hcm
        have b4 : ∀ k, k ≤ 4 → N + k < s.heap.objs.size := fun k hk' => Nat.lt_of_le_of_lt (Nat.add_le_add_left hk' _) hzl
        rcases e' with q | q | q | q | q
        · rw [q]; exact hzl
        · rw [q]; exact b4 2 (by decide)
        · rw [q]; exact b4 3 (by decide)
        · rw [q]; exact b4 0 (by decide)
        · rw [q]; exact b4 1 (by decide)
      rw [upd_ne (Nat.ne_of_lt hlt)]
      exact (hf c' hcm).1
  done := by
    intro X hP hw hK hc i pins s σ H E I hf st hg
    subst hP hw hK
    obtain ⟨hz, hTI, ⟨a1, a2, hTO⟩, h1, h2, l1, l2⟩ := st
    obtain ⟨hqy, hend⟩ := hg
    have hend : x.cps.size ≤ i ∨ ys.length ≤ i := hend
    obtain ⟨its2, rv2, p2, _⟩ := I.tuple hqy
    have hl2 := rv2.length
    have S := zip_sep2 (N := N) (fp1 := []) (fp2 := [b]) (fun c hc => nomatch hc) (fun c hc => by rw [List.mem_singleton.mp hc]; exact bN)
    have d1 := Draws.text (prog := X.prog) (w := X.w) (A := X.A.in1) (I.ok.hd hc) N x t
    have d2 := Draws.tuple (prog := X.prog) (w := X.w) (A := X.A.in1) (I.ok.hd hc) (N + 1) b (Nat.ne_of_lt (Nat.lt_succ_of_lt bN)) its2.toArray
    exact wpAny_pyNext_zipD2_end S d1 d2 hz hTI hTO h1 ⟨h2, p2⟩ l1 (by rw [List.size_toArray]; omega) (by rcases hend with q | q; exact .inl (Nat.le_antisymm l1 q); exact .inr (by have := List.size_toArray (as := its2); omega)) fun h' tk hk => ⟨rfl, I.turnedL (t' := tk) (ch := [N + 4, N + 2, N + 3, N, N + 1]) (fun c o hb q =>
      hk c o (fun q' => hb (by simp [q'])) (fun q' => hb (by simp [q'])) (fun q' => hb (by simp [q'])) (fun q' => hb (by simp [q'])) q) hf⟩
  self := fun A i s Q E st h => wpAny_pyIter_zip st.1 h
def iZipS (K : PySem.W.Frag) (ta : TA) : TI := fun σ H R => ta σ H fun vs H1 => ∃ x b ys, vs = [.str x, .ref b] ∧ SqT K H1 b ys ∧ R (ItzS K x b ys) H1
theorem pi_zipS {X : Cx} {e e2 : Expr} {ta : TA} {p pos tpos : Pos} {elts : List Expr} {kk : Nat} (hg : Gl X "zip") (hm : X.mg "zip" = none) (ha : PA X [e, e2] ta)
    (hs : starEach [e, e2] X.env = (false, eval e X.env) :: starEach [e2] X.env := by rfl) (hpl : (backTo pos (starEach [e2] X.env)).any (·.1) = false := by rfl) :
    PI X (.Tuple elts kk tpos) (.Call (.Name "zip" p) [e, e2] [] pos) (iZipS X.K ta) := by
  refine ⟨fun pins s σ H R I h => ?_⟩
  refine Call_ (ld_blt I hg hm PyProof.Rows.boot_zip (PyProof.Rows.callWith_type1 (thn (ha.run pos pins s σ H _ I h) fun us s1 ⟨vs, H1, I1, r1, q1⟩ => ?_) hs hpl))
  obtain ⟨x, b, ys, ex, hy, q⟩ := q1
  subst ex
  cases r1 with
  | cons r rr =>
    cases rr with
    | cons r' rr =>
      cases rr
      obtain ⟨t, rfl⟩ := r
      cases r'
      obtain ⟨its2, rv2, p2, _⟩ := I1.tuple hy
      obtain ⟨o2, g2, _⟩ := id p2
      refine zip_begins2 (begins_text x t) (begins_tuple b its2.toArray) trivial p2 fun h' hz hTI hTO h1 h2 hsz hk => wpAny_pyIter_zip hz ?_
      have I2 : Inv X pins σ H1 { s1 with heap := h' } := I1.kept (t' := s1.toks) hk
      refine ⟨s1.heap.objs.size + 4, _, _, _, H1, rfl, I2, turn_zipS (x := x) (t := t) (ys := ys) (Heap.lt_size g2), ⟨hz, hTI, ⟨_, _, hTO⟩, ⟨_, h1, rfl, rfl⟩, ⟨_, h2, rfl, rfl⟩, Nat.zero_le _, Nat.zero_le _⟩, fun c hcm => ?_, q⟩
      have e' : c = s1.heap.objs.size + 4 ∨ c = s1.heap.objs.size + 2 ∨ c = s1.heap.objs.size + 3 ∨ c = s1.heap.objs.size ∨ c = s1.heap.objs.size + 1 := by simpa using hcm
      have hle : s1.heap.objs.size ≤ c := by
        rcases e' with z | z | z | z | z
        · rw [z]; exact Nat.le_add_right _ _
        · rw [z]; exact Nat.le_add_right _ _
        · rw [z]; exact Nat.le_add_right _ _
        · rw [z]; exact Nat.le_refl _
        · rw [z]; exact Nat.le_add_right _ _
      exact I1.fpOk hle (I1.hok.fresh hle)
/-- a loop over zip of a text and a tuple of one length -/
theorem for_zipS {K : PySem.W.Frag} {x : Str} {b : Addr} {ys : List V} {g : TG} {tb : TS} {D : Ends} {σ : L2.St} {H : Hp} (hl : x.cps.size = ys.length) (Pv : Nat → L2.St → Hp → Prop) (h0 : Pv 0 σ H) (hq : ∀ i σ H, Pv i σ H → SqT K H b ys)
    (hs : ∀ (i c : Nat) (y : V) (T : Addr) (σ : L2.St) (H : Hp), x.cps[i]? = some c → ys[i]? = some y → Pv i σ H → H T = none → g (.ref T) σ (upd H T (.tup [.str ⟨#[c]⟩, y])) fun σ2 H2 => tb { D with nx := Pv (i + 1), ct := Pv (i + 1), bk := D.nx } σ2 H2) (hd : ∀ σ H, Pv ys.length σ H → D.nx σ H) :
    ∃ W : Nat → Nat → L2.St → Hp → Prop, (∃ m, W 0 m σ H) ∧ ∀ i m σ H, W i m σ H →
      ((ItzS K x b ys).stop i H ∧ D.nx σ H) ∨ ((ItzS K x b ys).go i H ∧ ∃ N : L2.St → Hp → Prop, (∀ σ' H', N σ' H' → ∃ m', m' < m ∧ W (i + 1) m' σ' H') ∧ ∀ v H', (ItzS K x b ys).yld i H v H' → g v σ H' fun σ2 H2 => tb { D with nx := N, ct := N, bk := D.nx } σ2 H2) := by
  refine ⟨fun i m σ H => m = ys.length - i ∧ i ≤ ys.length ∧ Pv i σ H, ⟨ys.length, rfl, Nat.zero_le _, h0⟩, ?_⟩
  rintro i m σ H ⟨rfl, hi, p⟩
  have q := hq i σ H p
  by_cases hlt : i < ys.length
  · refine .inr ⟨⟨q, by omega, hlt⟩, Pv (i + 1), fun σ' H' p' => ⟨ys.length - (i + 1), by omega, rfl, hlt, p'⟩, fun v H' y => ?_⟩
    obtain ⟨T, c, y', rfl, hT, rfl, f1, f2⟩ := y
    exact hs i c y' T σ H f1 f2 p hT
  · have e : i = ys.length := by omega
    subst e
    exact .inl ⟨⟨q, .inr (Nat.le_refl _)⟩, hd σ H p⟩
end My

set_option Elab.async false
set_option linter.all false
set_option maxRecDepth 100000
set_option maxHeartbeats 4000000
namespace My
open PySem PySem.W PySem.Spec PyProof.Rows L2
/-- a local name that holds one of several defs, called -/
def tCallA (i : Nat) (Ok : Addr → Sp → Prop) (t : TA) : TE := fun σ H Q => ∃ f sp, σ[i]? = some (some (.ref f)) ∧ Ok f sp ∧ t σ H fun vs H1 => sp vs H1 Q E0
theorem pe_cvA {X : Cx} {i k : Nat} {x : Str} {e : Expr} {es : List Expr} {t : TA} {p pos : Pos} {Ok : Addr → Sp → Prop} (c : ∀ f sp, Ok f sp → C8.CalAt X.prog X.w X.K X.mg X.base k f sp) (hr : Room k X.A) (hN : X.N[i]? = some x) (hv : Vis X.env.scope x) (ha : PA X (e :: es) t)
    (hd : (x == ("__debug__" : Str)) = false := by decide) (hcd : (x == ("__classdict__" : Str)) = false := by decide)
    (he : starEach (e :: es) X.env = (false, eval e X.env) :: starEach es X.env := by rfl) (hpl : (backTo pos (starEach es X.env)).any (·.1) = false := by rfl) :
    PE X (.Call (.Name x p) (e :: es) [] pos) (tCallA i Ok t) := by
  refine ⟨fun pins s σ H Q I h => ?_⟩
  obtain ⟨f, sp, hs, hok, ht⟩ := h
  obtain ⟨fd, ps, F, kp, b⟩ := (c f sp hok).ex
  refine wpAny_Call_Name_kw (thn ((pe_var (pos := p) hN hv hd hcd).run pins s σ H (fun v H1 => v = .ref f ∧ H1 = H) I ⟨.ref f, hs, rfl, rfl⟩) fun u s1 ⟨v, H1, I1, r1, q1⟩ => ?_)
  obtain ⟨rfl, rfl⟩ := q1
  cases r1
  refine PySem.W.callWith_K (h₀ := X.base) I.ok.mod.kin kp (thn (ha.run pos pins s1 σ _ _ I1 ht) fun us s2 ⟨vs, H2, I2, r, q⟩ => ⟨I2.kIn, ?_⟩) he hpl
  exact run_fn F hr b .nil pass0 I2 r (by rw [List.append_nil]; exact q)
/-- d.update(e) of two dicts of ours -/
def rUpdate : V → List V → Hp → VK → Prop := fun x vs H Q => ∃ d o kvs ws, x = .ref d ∧ vs = [.ref o] ∧ H d = some (.dK kvs) ∧ H o = some (.dK ws) ∧ d ≠ o ∧ kvs.length + ws.length ≤ sizeLine ∧ Q .non (upd H d (.dK (mergeK kvs ws)))
theorem mt_update {X : Cx} : MtM X "dict.update" rUpdate := by
  intro pins s σ H x vs v us Q I rx rv h
  obtain ⟨d, o, kvs, ws, rfl, rfl, hd, ho, hne, hz, q⟩ := h
  cases rx
  obtain ⟨u, rfl, ru⟩ := rv.one
  cases ru
  obtain ⟨z1, lo1, vs1, k1, hD⟩ := (show ObjOk X.prog X.w H s.heap d (.dK kvs) from I.hok d _ hd)
  obtain ⟨z2, lo2, vs2, k2, hO⟩ := (show ObjOk X.prog X.w H s.heap o (.dK ws) from I.hok o _ ho)
  have e1 := Paired.length k1
  have e2 := Paired.length k2
  refine call_meetsIn PySem.F.slot_dict_update hD.typeIs PySem.F.entry_dict_update (PySem.F.args_dict_update_2 _ _) (meets_dict_update (mixKind X.prog X.w) d o hne lo2)
    ⟨vs1, vs2, hD, hO, (by omega), fun h' hm _ hs => ?_⟩
  refine ⟨.non, upd H d (.dK (mergeK kvs ws)), I.write (t' := s.toks) (x := d) (e := d) (by rw [hd]; exact trivial) (.inl rfl) (fun b q hb z => (hs.2 b hb).trans z) ?_ ?_, rfl, q⟩
  · obtain ⟨o', ho', _⟩ := Heap.dictOf_iff.mp hm
    exact ⟨o', ho'⟩
  · refine ⟨?_, lo1, merged vs1 vs2, KV.merge k2 k1, hm⟩
    have e := Paired.length (KV.merge k2 k1)
    have e' := merged_length_le vs1 vs2
    omega
end My

set_option Elab.async false
set_option linter.all false
set_option maxRecDepth 100000
set_option maxHeartbeats 4000000
namespace My
open PySem L2
/-! ### what a script is -/
/-- the kinds of a deed's parts -/
inductive Kd
  | w | k | r | e | i | v | n | S | s
  deriving DecidableEq
def kname : Kd → Str
  | .w => "word" | .k => "count" | .r => "rank" | .e => "gap" | .i => "due" | .v => "worth" | .n => "names" | .S => "script" | .s => "perhaps"
def ksign : Kd → Nat
  | .w => 119 | .k => 107 | .r => 114 | .e => 101 | .i => 105 | .v => 118 | .n => 110 | .S => 83 | .s => 115
def formL : List (Str × List Kd) :=
  [("say", [.w]), ("echo", []), ("spend", [.k]), ("post", [.r, .w, .S]), ("micro", [.S]), ("after", [.k, .r, .w, .S]), ("every", [.e, .r, .w, .S]), ("idle", [.i, .w, .S]), ("stop", [.w]), ("rerank", [.w, .r]),
   ("make", [.w]), ("keep", [.w, .v]), ("pass", [.w]), ("break", [.w, .w]), ("follow", [.w, .w]), ("then", [.w, .w, .s, .s]), ("all", [.w, .n]), ("any", [.w, .n]), ("first", [.w, .n]), ("each", [.w, .n]), ("give", [.v]),
   ("fail", [.w]), ("guard", [.S, .s, .S]), ("if", [.w, .S, .S]), ("wait", [.w]), ("run", [.w]), ("story", [.w, .S]), ("cancel", [.w]), ("yield", [.r]), ("call", [.w])]
def formOf (x : Str) : Option (List Kd) := (formL.find? fun p => decide (p.1 = x)).map (·.2)
def nmD : PyData → Bool
  | .tuple ds => decide (ds.length ≤ 8) && ds.all wdD
  | _ => false
def partOk : Kd → PyData → Bool
  | .w, d => wdD d
  | .k, d => btw 0 1000 d
  | .r, d => btw 0 5 d
  | .e, d => btw 1 1000 d
  | .i, d => isNon d || btw 0 1000 d
  | .v, d => isW 4 d
  | .n, d => nmD d
  | _, _ => false
def isScr : Kd → Bool
  | .S => true
  | .s => true
  | _ => false
/-- how many deeds a part has, by what a script has in it -/
def partB (f : PyData → Option Nat) (k : Kd) (d : PyData) : Option Nat :=
  if isScr k = true then (if k = .s ∧ isNon d = true then some 0 else f d) else if partOk k d = true then some 0 else none
def sumO : List (Option Nat) → Option Nat
  | [] => some 0
  | none :: _ => none
  | some a :: l => (sumO l).map (a + ·)
def deedB (f : PyData → Option Nat) : PyData → Option Nat
  | .tuple (.str x :: ps) => match formOf x with
    | some ks => if ps.length = ks.length then sumO (List.zipWith (partB f) ks ps) else none
    | none => none
  | _ => none
def cnt : Nat → PyData → Option Nat
  | 0, _ => none
  | n + 1, .tuple ds => (sumO (ds.map (deedB (cnt n)))).map (ds.length + ·)
  | _ + 1, _ => none
section
variable {P : Program} {w : World} {K : PySem.W.Frag} {mg : Str → Option Value} {pB : Heap}
def spTest (t : PyData → Bool) : Sp := fun vs H Q _ => ∃ (m : Nat) (v : V) (d : PyData), vs = [v] ∧ Rep H m v d ∧ szD d ≤ 1000000 ∧ ∀ H', Same H H' → Q (.bl (t d)) H'
abbrev sNames : Stmt := top 15
theorem scNames : FnScope ["thing", "name"] ["thing"] (defScope sNames) := ⟨rfl, rfl, rfl, by decide +kernel, rfl, by decide +kernel, by decide +kernel⟩
theorem ok_names {f fW : Addr} {fd dW : FuncData} {tk2 : Tok} (F : Fun K "is_names" "is_names" sNames f fd)
    (GW : FnOk P w K mg pB CX0 1 fW dW ["thing"] spIsWord) (mW : mg "is_word" = some (.ref fW)) (kW : PySem.W.keepIn K (.ref fW) = true) (bW : Binds K dW ["thing"] [])
    (mI : mg "isinstance" = none) (mT : mg "tuple" = none) (mLen : mg "len" = none) (mAll : mg "all" = none) (mM : mg "MOST_NAMES" = some (.int 8 tk2)) : FnOk P w K mg pB CX0 2 f fd ["thing"] (spTest nmD) := by
  refine F.ok scNames (fun vs H Q E h => ?_) (fun cdv A outer s H vs Q E hr h => ?_)
  · obtain ⟨m, v, d, rfl, _⟩ := h
    rfl
  · obtain ⟨m, v, d, rfl, hR, hz, k⟩ := h
    have nd := scNames.nd
    refine ⟨_, pss_cons (ps_if (PW.pt (pw_or (pt_not (pt_val (pe_callB call_isi (by rfl) mI (by decide +kernel) (pa_cons (pv 0) (pa_cons (pe_bltn (by rfl) mT (by decide +kernel) (show RelV (.ty "tuple") (.type "tuple") from rfl)) pa_nil)))))
          (pw_or1 (pt_cmpR op_gt (pe_callB call_len_seq (by rfl) mLen PySem.boot_len (pa_cons (pv 0) pa_nil)) (pe_glob (by rfl) mM (show RelV (.int 8) _ from ⟨_, rfl⟩)) (nomark _)))))
        (pss_one (ps_ret pe_bl)) pss_nil)
      (pss_one (ps_ret (pe_callB (cr_all rfl) (by rfl) mAll (by decide +kernel) (pa_cons
        (pe_lc (own := [("name", 1)]) (g := gName 1) (tt := tYes) (te := tCall spIsWord [] E0 (tCons (tVar 1) tNil)) rfl nd (pi_tup (pv 0))
          (blkOk_by (N := ["thing", "name"]) (sc := defScope sNames) (by decide +kernel)) (fun _ _ _ _ _ => pg_name (i := 1) nd rfl (Or.inl rfl) (Or.inr rfl)) (fun _ _ _ _ _ => pts_nil)
          (fun _ _ _ _ _ => pe_call GW hr rfl mW kW bW .nil pass0 (pa_cons (pv 1) pa_nil))) pa_nil)))), ?_⟩
    refine rd_isi (.inr (.inr (.inr rfl))) rfl hR ⟨_, rfl, ?_⟩
    rcases @notTup d with ⟨ds, rfl⟩ | hn
    · refine iteB0 rfl ?_
      obtain ⟨m', a, xs, rfl, rfl, ha, hp⟩ := rep_tup hR
      have hlen := Paired.length hp
      refine ⟨_, rfl, a, xs, rfl, .inr (SqT.of ha), _, _, rfl, rfl, _, rfl, ?_⟩
      by_cases h8 : ds.length ≤ 8
      · refine iteB0 (decide_eq_false (by omega)) ?_
        refine ⟨_, rfl, a, rfl, ⟨_, SqT.of ha⟩, fun D hD => ?_⟩
        refine lc_tup (K := K) (xs := xs) (fun i H' => Same H H' ∧ H' D = some (.lst ((ds.take i).map fun e => V.bl (wdD e)))) ⟨Same.new (Same.refl _) hD, upd_same⟩ (fun i H' _ p => SqT.of (p.1 _ _ ha)) (fun i x H' hx p => ?_) (fun H' p => ?_)
        · obtain ⟨p1, p2⟩ := p
          obtain ⟨e, he, hre⟩ := Paired.at hp hx
          have hsz : szD e ≤ 1000000 := by
            have h1 := szL_get he
            rw [szD] at hz
            omega
          refine ⟨rfl, yes_of (iteT ?_)⟩
          refine ⟨_, rfl, m', x, e, rfl, hre.same p1, hsz, fun H2 s2 => ⟨_, s2 _ _ p2, ?_, ?_⟩⟩
          · rw [List.length_map]
            refine Nat.lt_of_le_of_lt (List.length_take_le' _ _) (Nat.lt_of_le_of_lt h8 (by decide))
          · refine ⟨fun b o ec => ?_, ?_⟩
            · rw [upd_ne (ne_of_none ec hD)]; exact s2 _ _ (p1 b o ec)
            · rw [upd_same, take_snoc he, List.map_append]; rfl
        · obtain ⟨p1, p2⟩ := p
          rw [hlen, List.take_length] at p2
          refine ⟨D, ds.map wdD, rfl, SqL.of (by rw [p2, List.map_map]; rfl), ?_⟩
          have e2 : nmD (.tuple ds) = (ds.map wdD).all id := by
            rw [nmD, decide_eq_true h8, Bool.true_and, List.all_map]; rfl
          have := k H' p1
          rw [e2] at this
          exact this
      · refine iteB1 (decide_eq_true (by omega)) ?_
        have e2 : nmD (.tuple ds) = false := by
          rw [nmD, decide_eq_false h8]; rfl
        have := k H (Same.refl _)
        rw [e2] at this
        exact this
    · refine iteB1 (by cases d <;> first | rfl | exact absurd rfl (hn _)) (iteT ?_)
      have e2 : nmD d = false := by cases d <;> first | rfl | exact absurd rfl (hn _)
      have := k H (Same.refl _)
      rw [e2] at this
      exact this
abbrev sRank : Stmt := top 16
abbrev sCount : Stmt := top 17
abbrev sGap : Stmt := top 18
abbrev sDue : Stmt := top 19
theorem scRank : FnScope ["thing"] ["thing"] (defScope sRank) := ⟨rfl, rfl, rfl, by decide +kernel, rfl, by decide +kernel, by decide +kernel⟩
theorem scCount : FnScope ["thing"] ["thing"] (defScope sCount) := ⟨rfl, rfl, rfl, by decide +kernel, rfl, by decide +kernel, by decide +kernel⟩
theorem scGap : FnScope ["thing"] ["thing"] (defScope sGap) := ⟨rfl, rfl, rfl, by decide +kernel, rfl, by decide +kernel, by decide +kernel⟩
theorem scDue : FnScope ["thing"] ["thing"] (defScope sDue) := ⟨rfl, rfl, rfl, by decide +kernel, rfl, by decide +kernel, by decide +kernel⟩
theorem ok_rank {f fB : Addr} {fd dB : FuncData} {tk : Tok} (F : Fun K "is_rank" "is_rank" sRank f fd)
    (GB : FnOk P w K mg pB CX0 1 fB dB ["thing", "least", "most"] spBtw) (mB : mg "is_between" = some (.ref fB)) (kB : PySem.W.keepIn K (.ref fB) = true) (bB : Binds K dB ["thing", "least", "most"] []) (mM : mg "LAST_RANK" = some (.int 5 tk)) : FnOk P w K mg pB CX0 2 f fd ["thing"] (spTest (btw 0 5)) := by
  refine F.ok scRank (fun vs H Q E h => ?_) (fun cdv A outer s H vs Q E hr h => ?_)
  · obtain ⟨m, v, d, rfl, _⟩ := h
    rfl
  · obtain ⟨m, v, d, rfl, hR, hz, k⟩ := h
    refine ⟨_, pss_one (ps_ret (pe_call GB hr rfl mB kB bB .nil pass0 (pa_cons (pv 0) (pa_cons pe_int (pa_cons (pe_glob (by rfl) mM (show RelV (.int 5) _ from ⟨_, rfl⟩)) pa_nil))))), ?_⟩
    exact ⟨_, rfl, m, v, d, 0, 5, rfl, hR, k H (Same.refl _)⟩
theorem ok_count {f fB : Addr} {fd dB : FuncData} {tk : Tok} (F : Fun K "is_count" "is_count" sCount f fd)
    (GB : FnOk P w K mg pB CX0 1 fB dB ["thing", "least", "most"] spBtw) (mB : mg "is_between" = some (.ref fB)) (kB : PySem.W.keepIn K (.ref fB) = true) (bB : Binds K dB ["thing", "least", "most"] []) (mM : mg "MOST_COUNT" = some (.int 1000 tk)) : FnOk P w K mg pB CX0 2 f fd ["thing"] (spTest (btw 0 1000)) := by
  refine F.ok scCount (fun vs H Q E h => ?_) (fun cdv A outer s H vs Q E hr h => ?_)
  · obtain ⟨m, v, d, rfl, _⟩ := h
    rfl
  · obtain ⟨m, v, d, rfl, hR, hz, k⟩ := h
    refine ⟨_, pss_one (ps_ret (pe_call GB hr rfl mB kB bB .nil pass0 (pa_cons (pv 0) (pa_cons pe_int (pa_cons (pe_glob (by rfl) mM (show RelV (.int 1000) _ from ⟨_, rfl⟩)) pa_nil))))), ?_⟩
    exact ⟨_, rfl, m, v, d, 0, 1000, rfl, hR, k H (Same.refl _)⟩
theorem ok_gap {f fB : Addr} {fd dB : FuncData} {tk : Tok} (F : Fun K "is_gap" "is_gap" sGap f fd)
    (GB : FnOk P w K mg pB CX0 1 fB dB ["thing", "least", "most"] spBtw) (mB : mg "is_between" = some (.ref fB)) (kB : PySem.W.keepIn K (.ref fB) = true) (bB : Binds K dB ["thing", "least", "most"] []) (mM : mg "MOST_COUNT" = some (.int 1000 tk)) : FnOk P w K mg pB CX0 2 f fd ["thing"] (spTest (btw 1 1000)) := by
  refine F.ok scGap (fun vs H Q E h => ?_) (fun cdv A outer s H vs Q E hr h => ?_)
  · obtain ⟨m, v, d, rfl, _⟩ := h
    rfl
  · obtain ⟨m, v, d, rfl, hR, hz, k⟩ := h
    refine ⟨_, pss_one (ps_ret (pe_call GB hr rfl mB kB bB .nil pass0 (pa_cons (pv 0) (pa_cons pe_int (pa_cons (pe_glob (by rfl) mM (show RelV (.int 1000) _ from ⟨_, rfl⟩)) pa_nil))))), ?_⟩
    exact ⟨_, rfl, m, v, d, 1, 1000, rfl, hR, k H (Same.refl _)⟩
theorem ok_due {f fC : Addr} {fd dC : FuncData} (F : Fun K "is_due" "is_due" sDue f fd)
    (GC : FnOk P w K mg pB CX0 2 fC dC ["thing"] (spTest (btw 0 1000))) (mC : mg "is_count" = some (.ref fC)) (kC : PySem.W.keepIn K (.ref fC) = true) (bC : Binds K dC ["thing"] []) : FnOk P w K mg pB CX0 3 f fd ["thing"] (spTest fun d => isNon d || btw 0 1000 d) := by
  refine F.ok scDue (fun vs H Q E h => ?_) (fun cdv A outer s H vs Q E hr h => ?_)
  · obtain ⟨m, v, d, rfl, _⟩ := h
    rfl
  · obtain ⟨m, v, d, rfl, hR, hz, k⟩ := h
    refine ⟨_, pss_one (ps_ret (pe_or (pe_cmp (pc_isN (pv 0)) rfl) (pe_one (pe_call GC hr rfl mC kC bC .nil pass0 (pa_cons (pv 0) pa_nil))))), ?_⟩
    refine ⟨_, rfl, _, rfl, ?_⟩
    rw [rep_nonn hR]
    cases hnn : isNon d with
    | true =>
      have : Q (.bl (isNon d || btw 0 1000 d)) H := k H (Same.refl _)
      rw [hnn] at this
      exact iteT this
    | false =>
      refine iteF ⟨_, rfl, m, v, d, rfl, hR, hz, fun H1 s1 => ?_⟩
      have : Q (.bl (isNon d || btw 0 1000 d)) H1 := k H1 s1
      rw [hnn, Bool.false_or] at this
      exact this
end
end My

set_option Elab.async false
set_option linter.all false
set_option maxRecDepth 100000
set_option maxHeartbeats 4000000
namespace My
open PySem L2
section
variable {P : Program} {w : World} {K : PySem.W.Frag} {mg : Str → Option Value} {pB : Heap}
/-- the module's table of deeds -/
structure Deeds (K : PySem.W.Frag) (w : World) (mg : Str → Option Value) (dA : Addr) (es : Array DictEntry) (n : Nat) : Prop where
  m : mg "DEEDS" = some (.ref dA)
  kd : KDict K w dA es n
  at_ : ∀ x ks, formOf x = some ks → ∃ t, PySem.W.nsIn K dA x = some (some (.ref t)) ∧ ∀ H, SqT K H t (ks.map fun k => V.str (kname k))
  no : ∀ x, formOf x = none → PySem.W.nsIn K dA x = some none
theorem Deeds.get {dA : Addr} {es : Array DictEntry} {n : Nat} (D : Deeds K w mg dA es n) {x : Str} {ks : List Kd} (h : formOf x = some ks) : ∃ t, PySem.W.nsIn K dA x = some (some (.ref t)) ∧ KDct K w dA x (.ref t) ∧ ∀ H, SqT K H t (ks.map fun k => V.str (kname k)) := by
  obtain ⟨t, e, hs⟩ := D.at_ x ks h
  exact ⟨t, e, ⟨es, n, .ref t, D.kd.at_, D.kd.lit, e, rfl⟩, hs⟩
def hasF : PyData → Bool
  | .tuple (.str x :: ps) => match formOf x with
    | some ks => decide (ps.length = ks.length)
    | none => false
  | _ => false
theorem rd_isiX {H : Hp} {Q : VK} {m : Nat} {T : String} {v : V} {d : PyData} (hT : T = "str" ∨ T = "int" ∨ T = "bool" ∨ T = "tuple") (r : Rep H m v d) (h : Q (.bl (isTy T d)) H) : rIsi K [v, .ty T] H Q := ⟨v, .ty T, .type (tyN d), .type T, _, rfl, .ty T, r.ty, kit_ty (kit_T hT d), h⟩
end
end My

set_option Elab.async false
set_option linter.all false
set_option maxRecDepth 100000
set_option maxHeartbeats 4000000
namespace My
open PySem L2
section
variable {P : Program} {w : World} {K : PySem.W.Frag} {mg : Str → Option Value} {pB : Heap}
/-- the module's table of checks -/
structure Checks (P : Program) (w : World) (K : PySem.W.Frag) (mg : Str → Option Value) (pB : Heap) (cA : Addr) : Prop where
  m : mg "CHECKS" = some (.ref cA)
  at_ : ∀ k, isScr k = false → ∃ f, KDct K w cA (kname k) (.ref f) ∧ C8.CalAt P w K mg pB 7 f (spTest (partOk k))
def spFits : Sp := fun vs H Q _ => ∃ (m : Nat) (v : V) (d : PyData) (k : Kd), vs = [.str (kname k), v] ∧ isScr k = false ∧ Rep H m v d ∧ szD d ≤ 1000000 ∧ ∀ H', Same H H' → Q (.bl (partOk k d)) H'
abbrev sFits : Stmt := top 24
theorem scFits : FnScope ["kind", "part", "check"] ["kind", "part"] (defScope sFits) := ⟨rfl, rfl, rfl, by decide +kernel, rfl, by decide +kernel, by decide +kernel⟩
theorem ok_fits {f cA : Addr} {fd : FuncData} (F : Fun K "fits" "fits" sFits f fd) (C : Checks P w K mg pB cA) : FnOk P w K mg pB CX0 8 f fd ["kind", "part"] spFits := by
  refine F.ok scFits (fun vs H Q E h => ?_) (fun cdv A outer s H vs Q E hr h => ?_)
  · obtain ⟨m, v, d, k, rfl, _⟩ := h
    rfl
  · obtain ⟨m, v, d, kd, rfl, hk, hR, hz, k⟩ := h
    have nd := scFits.nd
    refine ⟨_, pss_cons (ps_set (i := 2) nd rfl (Or.inl rfl) (pe_ix ix_kdict (pe_glob (by rfl) C.m (show RelV (.ref cA) _ from rfl)) (pv 0) (fun _ _ => rfl)))
      (pss_one (ps_ret (pe_cvA (Ok := fun f sp => C8.CalAt P w K mg pB 7 f sp) (i := 2) (fun f sp h => h) hr rfl (Or.inl rfl) (pa_cons (pv 1) pa_nil)))), ?_⟩
    obtain ⟨f, e1, e2⟩ := C.at_ kd hk
    refine asg_n ⟨_, rfl, cA, _, .ref f, rfl, rfl, e1, ?_⟩
    exact ⟨f, _, rfl, e2, _, rfl, m, v, d, rfl, hR, hz, k⟩
end
end My

set_option Elab.async false
set_option linter.all false
set_option maxRecDepth 100000
set_option maxHeartbeats 4000000
namespace My
open PySem L2
section
variable {P : Program} {w : World} {K : PySem.W.Frag} {mg : Str → Option Value} {pB : Heap}
def resV (o : Option Nat) (room : Int) : V := match o with
  | some c => if (c : Int) ≤ room then .int (room - c) else .non
  | none => .non
def spRoom (n : Nat) : Sp := fun vs H Q _ => ∃ (m : Nat) (v : V) (d : PyData) (room : Int), vs = [v, .int (n : Int), .int room] ∧ Rep H m v d ∧ szD d ≤ 1000000 ∧ 0 ≤ room ∧ ∀ H', Same H H' → Q (resV (cnt n d) room) H'
def spRoomD (n : Nat) : Sp := fun vs H Q _ => ∃ (m : Nat) (v : V) (x : Str) (ps : List PyData) (ks : List Kd) (room : Int), vs = [v, .int (n : Int), .int room] ∧ formOf x = some ks ∧ Rep H m v (.tuple (.str x :: ps)) ∧ szD (.tuple (.str x :: ps)) ≤ 1000000 ∧ 0 ≤ room ∧ ∀ H', Same H H' → Q (resV (deedB (cnt n) (.tuple (.str x :: ps))) room) H'
theorem sumO_app : ∀ (as bs : List (Option Nat)), sumO (as ++ bs) = match sumO as with | some a => (sumO bs).map (a + ·) | none => none
  | [], bs => by
    show sumO bs = (sumO bs).map (0 + ·)
    cases sumO bs <;> simp
  | none :: as, bs => rfl
  | some a :: as, bs => by
    show (sumO (as ++ bs)).map (a + ·) = match (sumO as).map (a + ·) with | some a => (sumO bs).map (a + ·) | none => none
    rw [sumO_app as bs]
    cases sumO as with
    | none => rfl
    | some c =>
      show ((sumO bs).map (c + ·)).map (a + ·) = (sumO bs).map (a + c + ·)
      cases sumO bs with
      | none => rfl
      | some e => show some (a + (c + e)) = some (a + c + e); rw [Nat.add_assoc]
/-- what stops in the middle stops the whole -/
theorem sumO_stop {l : List (Option Nat)} {j c : Nat} {o : Option Nat} {room : Int} (hj : l[j]? = some o) (hc : sumO (l.take j) = some c) (ho : ∀ e, o = some e → room < (c + e : Int)) : resV (sumO l) room = .non := by
  have hl : j < l.length := (List.getElem?_eq_some_iff.mp hj).1
  have e1 : l = l.take j ++ (o :: l.drop (j + 1)) := by
    rw [List.getElem?_eq_getElem hl] at hj
    rw [← Option.some.inj hj, ← List.drop_eq_getElem_cons hl, List.take_append_drop]
  rw [e1, sumO_app, hc]
  cases o with
  | none => rfl
  | some e =>
    show resV (((sumO (l.drop (j + 1))).map (e + ·)).map (c + ·)) room = .non
    cases sumO (l.drop (j + 1)) with
    | none => rfl
    | some g =>
      have := ho e rfl
      show (if ((c + (e + g) : Nat) : Int) ≤ room then _ else _) = _
      rw [if_neg (by omega)]
theorem sumO_snoc {l : List (Option Nat)} {j c e : Nat} (hj : l[j]? = some (some e)) (hc : sumO (l.take j) = some c) : sumO (l.take (j + 1)) = some (c + e) := by
  rw [take_snoc hj, sumO_app, hc]
  rfl
abbrev sRoomD : Stmt := top 23
theorem aug_n {te : TE} {ti : TIp} {i : Nat} {b : TS} {D : Ends} {σ : L2.St} {H : Hp} (h : ∃ x, σ[i]? = some (some x) ∧ te σ H fun y H1 => ti x y H1 fun z H2 => b D (σ.set i (some z)) H2) : tSeq (tAug i te ti) b D σ H := h
theorem scRoomD : FnScope ["deed", "levels", "room", "kinds", "at", "kind", "part"] ["deed", "levels", "room"] (defScope sRoomD) := ⟨rfl, rfl, rfl, by decide +kernel, rfl, by decide +kernel, by decide +kernel⟩
theorem step_roomD {f fW fF fR dA : Addr} {fd dW dF dR : FuncData} {es : Array DictEntry} {nn : Nat} (F : Fun K "room_behind_parts" "room_behind_parts" sRoomD f fd) (n : Nat) (D : Deeds K w mg dA es nn)
    (GW : FnOk P w K mg pB CX0 1 fW dW ["thing"] spIsWord) (mW : mg "is_word" = some (.ref fW)) (kW : PySem.W.keepIn K (.ref fW) = true) (bW' : Binds K dW ["thing"] [])
    (GF : FnOk P w K mg pB CX0 8 fF dF ["kind", "part"] spFits) (mF : mg "fits" = some (.ref fF)) (kF : PySem.W.keepIn K (.ref fF) = true) (bF : Binds K dF ["kind", "part"] [])
    (GR : FnOk P w K mg pB CX0 (10 + 2 * n) fR dR ["thing", "levels", "room"] (spRoom n)) (mR : mg "room_behind" = some (.ref fR)) (kR : PySem.W.keepIn K (.ref fR) = true) (bR : Binds K dR ["thing", "levels", "room"] [])
    (mLen : mg "len" = none) : FnOk P w K mg pB CX0 (11 + 2 * n) f fd ["deed", "levels", "room"] (spRoomD n) := by
  rw [show 11 + 2 * n = (10 + 2 * n) + 1 by omega]
  refine F.ok scRoomD (fun vs H Q E h => ?_) (fun cdv A outer s H vs Q E hr h => ?_)
  · obtain ⟨m, v, x, ps, ks, room, rfl, _⟩ := h
    rfl
  · obtain ⟨m, v, x, ps, ks, room, rfl, hfm, hR, hz, h0, k⟩ := h
    have nd := scRoomD.nd
    have hr1 : Room 1 _ := hr.mono (by omega)
    have hr8 : Room 8 _ := hr.mono (by omega)
    have pD : ∀ {X : Cx} {p : Pos}, Gl X "DEEDS" → X.mg "DEEDS" = some (.ref dA) → PE X (.Name "DEEDS" p) (tC (.ref dA)) := fun hg hm => pe_glob hg hm (show RelV (.ref dA) _ from rfl)
    refine ⟨_, pss_cons (ps_set (i := 3) nd rfl (Or.inl rfl) (pe_ix ix_kdict (pD (by rfl) D.m) (pe_ix ix_tup (pv 0) pe_int (fun _ _ => rfl)) (fun _ _ => rfl)))
      (pss_cons (ps_if (pt_cmpR op_ne (pe_callB call_len_seq (by rfl) mLen PySem.boot_len (pa_cons (pv 0) pa_nil)) (pe_op op_add pe_int (pe_callB call_len_seq (by rfl) mLen PySem.boot_len (pa_cons (pv 3) pa_nil))) (nomark _)) (pss_one (ps_ret pe_non)) pss_nil)
      (pss_cons (ps_set (i := 4) nd rfl (Or.inl rfl) pe_int)
      (pss_cons (ps_for PassesOwn.never rfl (pi_tup (pv 3)) (pg_name (i := 5) nd rfl (Or.inl rfl))
        (pss_cons (ps_aug (i := 4) nd rfl (.inl rfl) pe_int ip_add)
        (pss_cons (ps_set (i := 6) nd rfl (Or.inl rfl) (pe_ix ix_tup (pv 0) (pv 4) (fun _ _ => rfl)))
        (pss_one (ps_if (pt_cmpR op_eq (pv 5) pe_str (nomark _))
          (pss_one (ps_if (pt_not (pt_val (pe_call GW hr1 rfl mW kW bW' .nil pass0 (pa_cons (pv 6) pa_nil)))) (pss_one (ps_ret pe_non)) pss_nil))
          (pss_one (ps_if (PW.pt (pw_or (pt_cmpR op_eq (pv 5) pe_str (nomark _)) (pw_or1 (PW.pt (pw_and (pt_cmpR op_eq (pv 5) pe_str (nomark _)) (pw_and1 (pt_cmp (pc_notN (pv 6)))))))))
            (pss_cons (ps_set (i := 2) nd rfl (Or.inl rfl) (pe_call GR hr rfl mR kR bR .nil pass0 (pa_cons (pv 6) (pa_cons (pv 1) (pa_cons (pv 2) pa_nil))))) (pss_one (ps_if (pt_cmp (pc_isN (pv 2))) (pss_one (ps_ret pe_non)) pss_nil)))
            (pss_one (ps_if (PW.pt (pw_and (pt_cmpR op_ne (pv 5) pe_str (nomark _)) (pw_and1 (pt_not (pt_val (pe_call GF hr8 rfl mF kF bF .nil pass0 (pa_cons (pv 5) (pa_cons (pv 6) pa_nil)))))))) (pss_one (ps_ret pe_non)) pss_nil)))))))))
      (pss_one (ps_ret (pv 2)))))), ?_⟩
    obtain ⟨m', a, xs, rfl, e9, ha, hp⟩ := rep_tup hR
    have hzs : szL ps ≤ 1000000 := by
      rw [szD, szL] at hz
      omega
    cases hp with
    | @cons y0 e0' us ps' hx0 hpu =>
    cases rep_str hx0
    have hlu := Paired.length hpu
    obtain ⟨t, e1, e2, e3⟩ := D.get hfm
    subst e9
    refine asg_n ⟨_, rfl, a, _, 0, _, rfl, rfl, SqT.of ha, atI_nat (xs := V.str x :: us) (j := 0) (v := .str x) rfl, dA, x, .ref t, rfl, rfl, e2, ?_⟩
    refine ⟨_, rfl, a, _, rfl, .inr (SqT.of ha), _, rfl, t, _, rfl, .inr (e3 H), _, _, rfl, rfl, rfl, _, rfl, ?_⟩
    have ed : deedB (cnt n) (.tuple (.str x :: ps)) = if ps.length = ks.length then sumO (List.zipWith (partB (cnt n)) ks ps) else none := by
      show (match formOf x with | some ks => if ps.length = ks.length then sumO (List.zipWith (partB (cnt n)) ks ps) else none | none => none) = _
      rw [hfm]
    by_cases hlen : ps.length = ks.length
    case neg =>
      refine iteB1 ?_ ?_
      · rw [List.length_cons, List.length_map]
        show (!decide _) = true
        rw [decide_eq_false]; · rfl
        intro z
        have := V.int.inj z
        omega
      · have := k H (Same.refl _)
        rw [ed, if_neg hlen] at this
        exact this
    have e0 : deedB (cnt n) (.tuple (.str x :: ps)) = sumO (List.zipWith (partB (cnt n)) ks ps) := by rw [ed, if_pos hlen]
    rw [e0] at k
    refine iteB0 ?_ (nxt_of ?_)
    · rw [List.length_cons, List.length_map]
      show (!decide _) = false
      rw [decide_eq_true]; · rfl
      congr 1
      omega
    refine asg_n ?_
    refine ⟨_, rfl, t, rfl, ⟨_, e3 H⟩, for_tup (xs := ks.map fun k => V.str (kname k)) (fun j σ H3 => ∃ (c : Nat) (x4 x5 : Option V), σ = [some (.ref a), some (.int (n : Int)), some (.int (room - (c : Int))), some (.ref t), some (.int (j : Nat)), x4, x5] ∧ Same H H3 ∧ sumO ((List.zipWith (partB (cnt n)) ks ps).take j) = some c ∧ (c : Int) ≤ room) ?_ ?_ ?_ ?_⟩
    · refine ⟨0, none, none, ?_, Same.refl _, rfl, h0⟩
      rw [show room - ((0 : Nat) : Int) = room by omega]
      rfl
    · rintro j σ H3 _ ⟨c, x4, x5, rfl, s3, _⟩
      exact e3 H3
    · rintro j y σ H3 hy ⟨c, x4, x5, rfl, s3, hc, hcr⟩
      rw [List.getElem?_map] at hy
      obtain ⟨kd, hkd, rfl⟩ := Option.map_eq_some_iff.mp hy
      have hj : j < ks.length := (List.getElem?_eq_some_iff.mp hkd).1
      have hu : us[j]? = some us[j] := List.getElem?_eq_getElem (by omega)
      generalize us[j] = u at hu
      obtain ⟨e, he, hre⟩ := Paired.at hpu hu
      have hre3 := hre.same s3
      have hsz : szD e ≤ 1000000 := Nat.le_trans (szL_get he) hzs
      have hL : (List.zipWith (partB (cnt n)) ks ps)[j]? = some (partB (cnt n) kd e) := by
        rw [List.getElem?_zipWith, hkd, he]
      have hat : atI (V.str x :: us) ((j : Nat) + 1 : Int) = some u := by
        have := atI_nat (xs := V.str x :: us) (j := j + 1) (v := u) (by rw [List.getElem?_cons_succ]; exact hu)
        simpa using this
      have h3 : SqT K H3 a (V.str x :: us) := SqT.of (s3 _ _ ha)
      have t1 : decide (V.str (kname kd) = V.str "word") = decide (kd = .w) := by cases kd <;> decide +kernel
      have t3 : decide (V.str (kname kd) = V.str "script") = decide (kd = .S) := by cases kd <;> decide +kernel
      have t4 : decide (V.str (kname kd) = V.str "perhaps") = decide (kd = .s) := by cases kd <;> decide +kernel
      have stop : ∀ H', Same H3 H' → (∀ g, partB (cnt n) kd e = some g → room < (c + g : Int)) → Q .non H' := fun H' s' hg => by
        have := k H' (s3.trans s')
        rw [sumO_stop hL hc hg] at this
        exact this
      have done0 : ∀ H4, Same H3 H4 → partB (cnt n) kd e = some 0 → ∃ (c' : Nat) (x4 x5 : Option V), [some (V.ref a), some (.int (n : Int)), some (.int (room - (c : Int))), some (.ref t), some (.int ((j : Nat) + 1)), some (.str (kname kd)), some u] = [some (V.ref a), some (.int (n : Int)), some (.int (room - (c' : Int))), some (.ref t), some (.int ((j + 1 : Nat) : Int)), x4, x5] ∧ Same H H4 ∧ sumO ((List.zipWith (partB (cnt n)) ks ps).take (j + 1)) = some c' ∧ (c' : Int) ≤ room := fun H4 s4 h0' =>
        ⟨c, _, _, rfl, s3.trans s4, by have := sumO_snoc (e := 0) (by rw [hL, h0']) hc; simpa using this, hcr⟩
      refine aug_n ⟨_, rfl, _, _, rfl, rfl, ?_⟩
      refine asg_n ⟨_, rfl, _, rfl, a, _, _, u, rfl, rfl, h3, hat, ?_⟩
      refine ⟨_, rfl, rfl, _, rfl, ?_⟩
      by_cases hw : kd = .w
      · have hpB : partB (cnt n) kd e = if wdD e = true then some 0 else none := by rw [hw]; rfl
        refine iteB1 (by rw [t1]; exact decide_eq_true hw) ⟨_, rfl, m', u, e, rfl, hre3, hsz, fun H4 s4 => ⟨_, rfl, ?_⟩⟩
        rcases Bool.eq_false_or_eq_true (wdD e) with ho | ho
        · exact iteB0 (by rw [ho]; rfl) (done0 H4 s4 (by rw [hpB, if_pos ho]))
        · exact iteB1 (by rw [ho]; rfl) (stop H4 s4 fun g hg => by rw [hpB, if_neg (by rw [ho]; decide)] at hg; cases hg)
      · refine iteB0 (by rw [t1]; exact decide_eq_false hw) ?_
        refine ⟨_, rfl, rfl, _, rfl, ?_⟩
        by_cases hS : kd = .S
        · have hpB : partB (cnt n) kd e = cnt n e := by rw [partB, if_pos (by rw [hS]; rfl), if_neg (fun z => by rw [hS] at z; cases z.1)]
          refine iteB1 (by rw [t3]; exact decide_eq_true hS) (iteT ?_)
          refine asg_n (call_of ⟨_, rfl, _, rfl, _, rfl, m', u, e, room - (c : Int), rfl, hre3, hsz, by omega, fun H4 s4 => ?_⟩)
          cases hce : cnt n e with
          | none => exact ⟨_, rfl, _, rfl, iteT (stop H4 s4 fun g hg => by rw [hpB, hce] at hg; cases hg)⟩
          | some g =>
            by_cases hg : (g : Int) ≤ room - (c : Int)
            · have e1 : resV (some g) (room - (c : Int)) = .int (room - (c : Int) - g) := if_pos hg
              rw [e1]
              refine ⟨_, rfl, _, rfl, iteF ?_⟩
              refine ⟨c + g, some (.str (kname kd)), some u, ?_, s3.trans s4, sumO_snoc (by rw [hL, hpB, hce]) hc, by omega⟩
              rw [show room - ((c + g : Nat) : Int) = room - (c : Int) - (g : Int) by omega]
              rfl
            · have e1 : resV (some g) (room - (c : Int)) = .non := if_neg hg
              rw [e1]
              exact ⟨_, rfl, _, rfl, iteT (stop H4 s4 fun g' hg' => by rw [hpB, hce] at hg'; cases hg'; omega)⟩
        · refine iteB0 (by rw [t3]; exact decide_eq_false hS) ?_
          refine ⟨_, rfl, rfl, _, rfl, ?_⟩
          by_cases hs : kd = .s
          · have hk : isScr kd = true := by rw [hs]; rfl
            refine iteB1 (by rw [t4]; exact decide_eq_true hs) ?_
            refine ⟨_, rfl, _, rfl, ?_⟩
            rw [rep_nonn hre3]
            rcases Bool.eq_false_or_eq_true (isNon e) with hn | hn
            · refine iteB0 (by rw [hn]; rfl) ?_
              refine ⟨_, rfl, rfl, _, rfl, iteB0 (by rw [t4, decide_eq_true hs]; rfl) ?_⟩
              exact iteF (done0 H3 (Same.refl _) (by rw [partB, if_pos hk, if_pos ⟨hs, hn⟩]))
            · have hpB : partB (cnt n) kd e = cnt n e := by rw [partB, if_pos hk, if_neg (fun z => by rw [hn] at z; cases z.2)]
              refine iteB1 (by rw [hn]; rfl) ?_
              refine asg_n (call_of ⟨_, rfl, _, rfl, _, rfl, m', u, e, room - (c : Int), rfl, hre3, hsz, by omega, fun H4 s4 => ?_⟩)
              cases hce : cnt n e with
              | none => exact ⟨_, rfl, _, rfl, iteT (stop H4 s4 fun g hg => by rw [hpB, hce] at hg; cases hg)⟩
              | some g =>
                by_cases hg : (g : Int) ≤ room - (c : Int)
                · have e1 : resV (some g) (room - (c : Int)) = .int (room - (c : Int) - g) := if_pos hg
                  rw [e1]
                  refine ⟨_, rfl, _, rfl, iteF ?_⟩
                  refine ⟨c + g, some (.str (kname kd)), some u, ?_, s3.trans s4, sumO_snoc (by rw [hL, hpB, hce]) hc, by omega⟩
                  rw [show room - ((c + g : Nat) : Int) = room - (c : Int) - (g : Int) by omega]
                  rfl
                · have e1 : resV (some g) (room - (c : Int)) = .non := if_neg hg
                  rw [e1]
                  exact ⟨_, rfl, _, rfl, iteT (stop H4 s4 fun g' hg' => by rw [hpB, hce] at hg'; cases hg'; omega)⟩
          · have hk : isScr kd = false := by cases kd <;> first | rfl | exact absurd rfl hS | exact absurd rfl hs
            have hpB : partB (cnt n) kd e = if partOk kd e = true then some 0 else none := by rw [partB, if_neg (by rw [hk]; decide)]
            refine iteB0 (by rw [t4]; exact decide_eq_false hs) (iteF ?_)
            refine ⟨_, rfl, rfl, _, rfl, iteB1 (by rw [t4, decide_eq_false hs]; rfl) ⟨_, rfl, _, rfl, m', u, e, kd, rfl, hk, hre3, hsz, fun H4 s4 => ⟨_, rfl, ?_⟩⟩⟩
            rcases Bool.eq_false_or_eq_true (partOk kd e) with ho | ho
            · exact iteB0 (by rw [ho]; rfl) (done0 H4 s4 (by rw [hpB, if_pos ho]))
            · exact iteB1 (by rw [ho]; rfl) (stop H4 s4 fun g hg => by rw [hpB, if_neg (by rw [ho]; decide)] at hg; cases hg)
    · rintro σ H3 ⟨c, x4, x5, rfl, s3, hc, hcr⟩
      have hfull : (List.zipWith (partB (cnt n)) ks ps).take (ks.map fun k => V.str (kname k)).length = List.zipWith (partB (cnt n)) ks ps := by
        rw [List.take_of_length_le]
        rw [List.length_zipWith, List.length_map]
        omega
      rw [hfull] at hc
      refine ⟨_, rfl, ?_⟩
      have := k H3 s3
      rw [hc] at this
      have e1 : resV (some c) room = .int (room - c) := if_pos hcr
      rw [e1] at this
      exact this
end
end My

set_option Elab.async false
set_option linter.all false
set_option maxRecDepth 100000
set_option maxHeartbeats 4000000
namespace My
open PySem L2
section
variable {P : Program} {w : World} {K : PySem.W.Frag} {mg : Str → Option Value} {pB : Heap}
def spPrevD : Nat → Sp
  | 0 => spBot
  | n + 1 => spRoomD n
abbrev sRoom : Stmt := top 22
theorem scRoom : FnScope ["thing", "levels", "room", "deed"] ["thing", "levels", "room"] (defScope sRoom) := ⟨rfl, rfl, rfl, by decide +kernel, rfl, by decide +kernel, by decide +kernel⟩
theorem resV_add {l : Nat} {o : Option Nat} {room : Int} (h : (l : Int) ≤ room) : resV (o.map (l + ·)) room = resV o (room - l) := by
  cases o with
  | none => rfl
  | some c =>
    show (if ((l + c : Nat) : Int) ≤ room then V.int (room - ((l + c : Nat) : Int)) else .non) = (if (c : Int) ≤ room - l then V.int (room - l - c) else .non)
    by_cases hc : (c : Int) ≤ room - l
    · rw [if_pos hc, if_pos (by omega)]
      congr 1
      omega
    · rw [if_neg hc, if_neg (by omega)]
theorem resV_big {l : Nat} {o : Option Nat} {room : Int} (h : ¬ (l : Int) ≤ room) : resV (o.map (l + ·)) room = .non := by
  cases o with
  | none => rfl
  | some c =>
    show (if ((l + c : Nat) : Int) ≤ room then V.int (room - ((l + c : Nat) : Int)) else .non) = .non
    rw [if_neg (by omega)]
theorem step_room {f fD dA : Addr} {fd dD : FuncData} {es : Array DictEntry} {nn : Nat} (F : Fun K "room_behind" "room_behind" sRoom f fd) (n : Nat) (D : Deeds K w mg dA es nn)
    (GD : FnOk P w K mg pB CX0 (9 + 2 * n) fD dD ["deed", "levels", "room"] (spPrevD n)) (mD : mg "room_behind_parts" = some (.ref fD)) (kD : PySem.W.keepIn K (.ref fD) = true) (bD : Binds K dD ["deed", "levels", "room"] [])
    (mI : mg "isinstance" = none) (mT : mg "tuple" = none) (mS : mg "str" = none) (mLen : mg "len" = none) : FnOk P w K mg pB CX0 (10 + 2 * n) f fd ["thing", "levels", "room"] (spRoom n) := by
  rw [show 10 + 2 * n = (9 + 2 * n) + 1 by omega]
  refine F.ok scRoom (fun vs H Q E h => ?_) (fun cdv A outer s H vs Q E hr h => ?_)
  · obtain ⟨m, v, d, room, rfl, _⟩ := h
    rfl
  · obtain ⟨m, v, d, room, rfl, hR, hz, h0, k⟩ := h
    have nd := scRoom.nd
    have pD : ∀ {X : Cx} {p : Pos}, Gl X "DEEDS" → X.mg "DEEDS" = some (.ref dA) → PE X (.Name "DEEDS" p) (tC (.ref dA)) := fun hg hm => pe_glob hg hm (show RelV (.ref dA) _ from rfl)
    refine ⟨_, pss_cons (ps_if (PW.pt (pw_or (pt_not (pt_val (pe_callB call_isi (by rfl) mI (by decide +kernel) (pa_cons (pv 0) (pa_cons (pe_bltn (by rfl) mT (by decide +kernel) (show RelV (.ty "tuple") (.type "tuple") from rfl)) pa_nil)))))
        (pw_or (pt_cmpR op_eq (pv 1) pe_int (nomark _)) (pw_or1 (pt_cmpR op_gt (pe_callB call_len_seq (by rfl) mLen PySem.boot_len (pa_cons (pv 0) pa_nil)) (pv 2) (nomark _))))))
        (pss_one (ps_ret pe_non)) pss_nil)
      (pss_cons (ps_aug (i := 2) nd rfl (.inl rfl) (pe_callB call_len_seq (by rfl) mLen PySem.boot_len (pa_cons (pv 0) pa_nil)) ip_sub)
      (pss_cons (ps_for PassesOwn.never rfl (pi_tup (pv 0)) (pg_name (i := 3) nd rfl (Or.inl rfl))
        (pss_cons (ps_if (PW.pt (pw_or (pt_not (pt_val (pe_callB call_isi (by rfl) mI (by decide +kernel) (pa_cons (pv 3) (pa_cons (pe_bltn (by rfl) mT (by decide +kernel) (show RelV (.ty "tuple") (.type "tuple") from rfl)) pa_nil)))))
          (pw_or (pt_not (pt_truth (pv 3) (by intro _; rfl)))
          (pw_or (pt_not (pt_val (pe_callB call_isi (by rfl) mI (by decide +kernel) (pa_cons (pe_ix ix_tup (pv 3) pe_int (fun _ _ => rfl)) (pa_cons (pe_bltn (by rfl) mS (by decide +kernel) (show RelV (.ty "str") (.type "str") from rfl)) pa_nil)))))
          (pw_or1 (pt_cmpR (op_notIn_kd D.kd) (pe_ix ix_tup (pv 3) pe_int (fun _ _ => rfl)) (pD (by rfl) D.m) (by rfl)))))))
          (pss_one (ps_ret pe_non)) pss_nil)
        (pss_cons (ps_set (i := 2) nd rfl (Or.inl rfl) (pe_call GD hr rfl mD kD bD .nil pass0 (pa_cons (pv 3) (pa_cons (pe_op op_sub (pv 1) pe_int) (pa_cons (pv 2) pa_nil)))))
          (pss_one (ps_if (pt_cmp (pc_isN (pv 2))) (pss_one (ps_ret pe_non)) pss_nil)))))
      (pss_one (ps_ret (pv 2))))), ?_⟩
    have out : resV (cnt n d) room = .non → Q .non H := fun e => by
      have := k H (Same.refl _)
      rw [e] at this
      exact this
    refine rd_isi (.inr (.inr (.inr rfl))) rfl hR ⟨_, rfl, ?_⟩
    rcases @notTup d with ⟨ds, rfl⟩ | hn
    · refine iteB0 rfl ?_
      obtain ⟨m', a, xs, rfl, rfl, ha, hp⟩ := rep_tup hR
      have hlen := Paired.length hp
      cases n with
      | zero => exact ⟨_, rfl, rfl, _, rfl, iteY rfl (iteT (out rfl))⟩
      | succ n =>
        refine ⟨_, rfl, rfl, _, rfl, iteN (by intro z; have := V.int.inj z; omega) ?_⟩
        refine ⟨_, rfl, a, xs, rfl, .inr (SqT.of ha), _, rfl, _, _, rfl, rfl, _, rfl, ?_⟩
        by_cases hl : (ds.length : Int) ≤ room
        · refine iteB0 (decide_eq_false (by omega)) (nxt_of (aug_n ?_))
          refine ⟨_, rfl, _, rfl, a, xs, rfl, .inr (SqT.of ha), _, _, rfl, rfl, ?_⟩
          have k' : ∀ H', Same H H' → Q (resV (sumO (ds.map (deedB (cnt n)))) (room - ds.length)) H' := fun H' s' => by
            have := k H' s'
            rw [cnt, resV_add hl] at this
            exact this
          have hzs : szL ds ≤ 1000000 := by rw [szD] at hz; omega
          refine ⟨_, rfl, a, rfl, ⟨_, SqT.of ha⟩, for_tup (xs := xs) (fun j σ H3 => ∃ (c : Nat) (x3 : Option V), σ = [some (.ref a), some (.int ((n + 1 : Nat) : Int)), some (.int (room - (ds.length : Int) - (c : Int))), x3] ∧ Same H H3 ∧ sumO ((ds.map (deedB (cnt n))).take j) = some c ∧ (c : Int) ≤ room - ds.length) ?_ ?_ ?_ ?_⟩
          · refine ⟨0, none, ?_, Same.refl _, rfl, by omega⟩
            rw [hlen, show room - (ds.length : Int) - ((0 : Nat) : Int) = room - (ds.length : Int) by omega]
            rfl
          · rintro j σ H3 _ ⟨c, x3, rfl, s3, _⟩
            exact SqT.of (s3 _ _ ha)
          · rintro j y σ H3 hy ⟨c, x3, rfl, s3, hc, hcr⟩
            obtain ⟨e, he, hre⟩ := Paired.at hp hy
            have hsz : szD e ≤ 1000000 := Nat.le_trans (szL_get he) hzs
            have hL : (ds.map (deedB (cnt n)))[j]? = some (deedB (cnt n) e) := by rw [List.getElem?_map, he]; rfl
            have stop : ∀ H', Same H3 H' → (∀ g, deedB (cnt n) e = some g → room - ds.length < (c + g : Int)) → Q .non H' := fun H' s' hg => by
              have := k' H' (s3.trans s')
              rw [sumO_stop hL hc hg] at this
              exact this
            have hre3 := hre.same s3
            have bad : deedB (cnt n) e = none → Q .non H3 := fun z => stop H3 (Same.refl _) fun g hg => by rw [z] at hg; cases hg
            refine rd_isi (.inr (.inr (.inr rfl))) rfl hre3 ⟨_, rfl, ?_⟩
            rcases @notTup e with ⟨es', rfl⟩ | hn
            case inr =>
              refine iteB1 (by cases e <;> first | rfl | exact absurd rfl (hn _)) (iteT (bad ?_))
              cases e <;> first | rfl | exact absurd rfl (hn _)
            refine iteB0 rfl ?_
            obtain ⟨m2, b, zs, rfl, rfl, hb, hpb⟩ := rep_tup hre3
            refine ⟨_, rfl, _, .inr (.inl ⟨zs, SqT.of hb, rfl⟩), ?_⟩
            cases hpb with
            | nil => exact iteB1 rfl (iteT (bad rfl))
            | @cons z0 e0 zs ds' hr0 hpb =>
            refine iteB0 rfl ?_
            have hat : atI (z0 :: zs) 0 = some z0 := atI_nat (xs := z0 :: zs) (j := 0) (v := z0) rfl
            refine ⟨_, rfl, b, _, 0, z0, rfl, rfl, SqT.of hb, hat, z0, .ty "str", .type (tyN e0), .type "str", _, rfl, .ty "str", hr0.ty, kit_ty (kit_T (.inl rfl) e0), _, rfl, ?_⟩
            by_cases hst : ∃ y, e0 = .str y
            case neg =>
              refine iteB1 (by cases e0 <;> first | rfl | exact absurd ⟨_, rfl⟩ hst) (iteT (bad ?_))
              cases e0 <;> first | rfl | exact absurd ⟨_, rfl⟩ hst
            obtain ⟨x, rfl⟩ := hst
            cases rep_str hr0
            refine iteB0 rfl ?_
            cases hf : formOf x with
            | none =>
              refine ⟨_, rfl, b, _, 0, _, rfl, rfl, SqT.of hb, hat, x, none, rfl, rfl, D.no x hf, _, rfl, iteB1 rfl (bad ?_)⟩
              show (match formOf x with | some ks => if ds'.length = ks.length then sumO (List.zipWith (partB (cnt n)) ks ds') else none | none => none) = none
              rw [hf]
            | some ks =>
              obtain ⟨t, e1, e2, e3⟩ := D.get hf
              refine ⟨_, rfl, b, _, 0, _, rfl, rfl, SqT.of hb, hat, x, some (.ref t), rfl, rfl, e1, _, rfl, iteB0 rfl (nxt_of ?_)⟩
              refine asg_n (call_of ⟨_, rfl, _, rfl, _, _, rfl, rfl, _, rfl, m2 + 1, .ref b, x, ds', ks, room - (ds.length : Int) - (c : Int), ?_, hf, hre3, hsz, by omega, fun H4 s4 => ?_⟩)
              · show [V.ref b, V.int (((n + 1 : Nat) : Int) - 1), V.int (room - (ds.length : Int) - (c : Int))] = [V.ref b, V.int (n : Int), V.int (room - (ds.length : Int) - (c : Int))]
                rw [show (((n + 1 : Nat) : Int) - 1) = (n : Int) by omega]
              cases hce : deedB (cnt n) (.tuple (.str x :: ds')) with
              | none => exact ⟨_, rfl, _, rfl, iteT (stop H4 s4 fun g hg => by rw [hce] at hg; cases hg)⟩
              | some g =>
                by_cases hg : (g : Int) ≤ room - (ds.length : Int) - (c : Int)
                · have e1 : resV (some g) (room - (ds.length : Int) - (c : Int)) = .int (room - (ds.length : Int) - (c : Int) - g) := if_pos hg
                  rw [e1]
                  refine ⟨_, rfl, _, rfl, iteF ?_⟩
                  refine ⟨c + g, some (.ref b), ?_, s3.trans s4, sumO_snoc (by rw [hL, hce]) hc, by omega⟩
                  rw [show room - (ds.length : Int) - ((c + g : Nat) : Int) = room - (ds.length : Int) - (c : Int) - (g : Int) by omega]
                  rfl
                · have e1 : resV (some g) (room - (ds.length : Int) - (c : Int)) = .non := if_neg hg
                  rw [e1]
                  exact ⟨_, rfl, _, rfl, iteT (stop H4 s4 fun g' hg' => by rw [hce] at hg'; cases hg'; omega)⟩
          · rintro σ H3 ⟨c, x3, rfl, s3, hc, hcr⟩
            have hfull : (ds.map (deedB (cnt n))).take xs.length = ds.map (deedB (cnt n)) := by
              rw [List.take_of_length_le]
              rw [List.length_map]; omega
            rw [hfull] at hc
            refine ⟨_, rfl, ?_⟩
            have := k' H3 s3
            rw [hc] at this
            have e1 : resV (some c) (room - ds.length) = .int (room - ds.length - c) := if_pos hcr
            rw [e1] at this
            exact this
        · refine iteB1 (decide_eq_true (by omega)) (out ?_)
          rw [cnt, resV_big hl]
    · refine iteB1 (by cases d <;> first | rfl | exact absurd rfl (hn _)) (iteT (out ?_))
      cases n with
      | zero => rfl
      | succ n => cases d <;> first | rfl | exact absurd rfl (hn _)
end
end My

set_option Elab.async false
set_option linter.all false
set_option maxRecDepth 100000
set_option maxHeartbeats 4000000
namespace My
open PySem L2
section
variable {P : Program} {w : World} {K : PySem.W.Frag} {mg : Str → Option Value} {pB : Heap}
theorem ok_rooms {f fR fW fF dA : Addr} {fd dR dW dF : FuncData} {es : Array DictEntry} {nn : Nat} (F : Fun K "room_behind_parts" "room_behind_parts" sRoomD f fd) (mD : mg "room_behind_parts" = some (.ref f)) (bD : Binds K fd ["deed", "levels", "room"] [])
    (FR : Fun K "room_behind" "room_behind" sRoom fR dR) (mR : mg "room_behind" = some (.ref fR)) (bR : Binds K dR ["thing", "levels", "room"] []) (D : Deeds K w mg dA es nn)
    (GW : FnOk P w K mg pB CX0 1 fW dW ["thing"] spIsWord) (mW : mg "is_word" = some (.ref fW)) (kW : PySem.W.keepIn K (.ref fW) = true) (bW' : Binds K dW ["thing"] [])
    (GF : FnOk P w K mg pB CX0 8 fF dF ["kind", "part"] spFits) (mF : mg "fits" = some (.ref fF)) (kF : PySem.W.keepIn K (.ref fF) = true) (bF : Binds K dF ["kind", "part"] [])
    (mI : mg "isinstance" = none) (mT : mg "tuple" = none) (mS : mg "str" = none) (mLen : mg "len" = none) :
    ∀ n, FnOk P w K mg pB CX0 (10 + 2 * n) fR dR ["thing", "levels", "room"] (spRoom n) ∧ FnOk P w K mg pB CX0 (11 + 2 * n) f fd ["deed", "levels", "room"] (spRoomD n)
  | 0 => by
    have r := step_room FR 0 (P := P) (pB := pB) D (ok_bot (f := f) (fd := fd)) mD F.kp bD mI mT mS mLen
    exact ⟨r, step_roomD F 0 D GW mW kW bW' GF mF kF bF r mR FR.kp bR mLen⟩
  | n + 1 => by
    have h := ok_rooms F mD bD FR mR bR D GW mW kW bW' GF mF kF bF mI mT mS mLen n
    have r := step_room FR (n + 1) D (h.2.mono (by omega)) mD F.kp bD mI mT mS mLen
    exact ⟨r, step_roomD F (n + 1) D GW mW kW bW' GF mF kF bF r mR FR.kp bR mLen⟩
def isS (d : PyData) : Bool := match cnt 5 d with
  | some c => decide (c ≤ 200)
  | none => false
theorem isS_res (d : PyData) : (!decide (resV (cnt 5 d) 200 = .non)) = isS d := by
  unfold isS
  cases cnt 5 d with
  | none => rfl
  | some c =>
    show (!decide ((if ((c : Nat) : Int) ≤ 200 then V.int (200 - (c : Int)) else .non) = .non)) = decide (c ≤ 200)
    by_cases h : c ≤ 200
    · rw [if_pos (by omega), decide_eq_true h]
      rfl
    · rw [if_neg (by omega), decide_eq_false h]
      rfl
abbrev sIsScript : Stmt := top 21
theorem scIsScript : FnScope ["thing"] ["thing"] (defScope sIsScript) := ⟨rfl, rfl, rfl, by decide +kernel, rfl, by decide +kernel, by decide +kernel⟩
theorem ok_isscript {f fR : Addr} {fd dR : FuncData} {tk tk2 : Tok} (F : Fun K "is_script" "is_script" sIsScript f fd)
    (GR : FnOk P w K mg pB CX0 20 fR dR ["thing", "levels", "room"] (spRoom 5)) (mR : mg "room_behind" = some (.ref fR)) (kR : PySem.W.keepIn K (.ref fR) = true) (bR : Binds K dR ["thing", "levels", "room"] [])
    (mL : mg "SCRIPT_LEVELS" = some (.int 5 tk)) (mM : mg "MOST_DEEDS" = some (.int 200 tk2)) : FnOk P w K mg pB CX0 21 f fd ["thing"] (spTest isS) := by
  refine F.ok scIsScript (fun vs H Q E h => ?_) (fun cdv A outer s H vs Q E hr h => ?_)
  · obtain ⟨m, v, d, rfl, _⟩ := h
    rfl
  · obtain ⟨m, v, d, rfl, hR, hz, k⟩ := h
    refine ⟨_, pss_one (ps_ret (pe_cmp (pc_notN (pe_call GR hr rfl mR kR bR .nil pass0 (pa_cons (pv 0) (pa_cons (pe_glob (by rfl) mL (show RelV (.int 5) _ from ⟨_, rfl⟩)) (pa_cons (pe_glob (by rfl) mM (show RelV (.int 200) _ from ⟨_, rfl⟩)) pa_nil))))) rfl)), ?_⟩
    refine ⟨_, rfl, m, v, d, 200, rfl, hR, hz, by decide, fun H1 s1 => ?_⟩
    show Q (.bl (!decide (resV (cnt 5 d) 200 = .non))) H1
    rw [isS_res]
    exact k H1 s1
end
end My

set_option Elab.async false
set_option linter.all false
set_option maxRecDepth 100000
set_option maxHeartbeats 4000000
namespace My
open PySem L2
section
variable {P : Program} {w : World} {K : PySem.W.Frag} {mg : Str → Option Value} {pB : Heap}
/-! ### the law's own table of forms -/
def ksignS (ks : List Kd) : Str := ⟨(ks.map ksign).toArray⟩
def formK : List (Key × V) := formL.map fun p => (Sum.inr p.1, V.str (ksignS p.2))
def fk (x : Str) (y : Str) : Key × V := (Sum.inr x, V.str y)
def fk1 : List (Key × V) := [fk "say" "w", fk "echo" "", fk "spend" "k", fk "post" "rwS", fk "micro" "S", fk "after" "krwS", fk "every" "erwS"]
def fk2 : List (Key × V) := [fk "idle" "iwS", fk "stop" "w", fk "rerank" "wr", fk "make" "w", fk "keep" "wv", fk "pass" "w", fk "break" "ww"]
def fk3 : List (Key × V) := [fk "follow" "ww", fk "then" "wwss", fk "all" "wn", fk "any" "wn", fk "first" "wn", fk "each" "wn", fk "give" "v"]
def fk4 : List (Key × V) := [fk "fail" "w", fk "guard" "SsS", fk "if" "wSS", fk "wait" "w", fk "run" "w", fk "story" "wS", fk "cancel" "w"]
def fk5 : List (Key × V) := [fk "yield" "r", fk "call" "w"]
def spForms : Sp := fun vs H Q _ => vs = [] ∧ ∀ (p : Addr) (H' : Hp), Same H H' → H' p = some (.dK formK) → Q (.ref p) H'
abbrev sForms : Stmt := top 31
theorem scForms : FnScope ["_law_some"] [] (defScope sForms) := ⟨rfl, rfl, rfl, by decide +kernel, rfl, by decide +kernel, by decide +kernel⟩
/-! ### the law's look at a part -/
def spIsPart : Sp := fun vs H Q _ => ∃ (m : Nat) (v : V) (d : PyData) (k : Kd), vs = [.str ⟨#[ksign k]⟩, v] ∧ isScr k = false ∧ Rep H m v d ∧ szD d ≤ 1000000 ∧ ∀ H', Same H H' → Q (.bl (partOk k d)) H'
abbrev sIsPart : Stmt := top 37
theorem scIsPart : FnScope ["_law_kind", "_law_it", "_law_one"] ["_law_kind", "_law_it"] (defScope sIsPart) := ⟨rfl, rfl, rfl, by decide +kernel, rfl, by decide +kernel, by decide +kernel⟩
theorem ok_ispart {f fW fT fB : Addr} {fd dW dT dB : FuncData} (F : Fun K "_law_is_part" "_law_is_part" sIsPart f fd)
    (GW : FnOk P w K mg pB CX0 1 fW dW ["_law_it"] spIsWord) (mW : mg "_law_is_word" = some (.ref fW)) (kW : PySem.W.keepIn K (.ref fW) = true) (bW : Binds K dW ["_law_it"] [])
    (GT : FnOk P w K mg pB CX0 6 fT dT ["_law_it", "_law_left"] (spWth 4)) (mG : mg "_law_is_worth" = some (.ref fT)) (kT : PySem.W.keepIn K (.ref fT) = true) (bT : Binds K dT ["_law_it", "_law_left"] [])
    (GB : FnOk P w K mg pB CX0 1 fB dB ["_law_it", "_law_least", "_law_most"] spBtw) (mB : mg "_law_is_from" = some (.ref fB)) (kB : PySem.W.keepIn K (.ref fB) = true) (bB : Binds K dB ["_law_it", "_law_least", "_law_most"] [])
    (mI : mg "isinstance" = none) (mT : mg "tuple" = none) (mLen : mg "len" = none) (mInt : mg "int" = none) : FnOk P w K mg pB CX0 7 f fd ["_law_kind", "_law_it"] spIsPart := by
  refine F.ok scIsPart (fun vs H Q E h => ?_) (fun cdv A outer s H vs Q E hr h => ?_)
  · obtain ⟨m, v, d, k, rfl, _⟩ := h
    rfl
  · obtain ⟨m, v, d, kd, rfl, hk, hR, hz, k⟩ := h
    have nd := scIsPart.nd
    have hr1 : Room 1 _ := hr.mono (by decide)
    refine ⟨_, pss_cons (ps_if (pt_cmpR op_eq (pv 0) pe_str (nomark _)) (pss_one (ps_ret (pe_call GW hr1 rfl mW kW bW .nil pass0 (pa_cons (pv 1) pa_nil)))) pss_nil)
      (pss_cons (ps_if (pt_cmpR op_eq (pv 0) pe_str (nomark _)) (pss_one (ps_ret (pe_and (pe_callB call_isi (by rfl) mI (by decide +kernel) (pa_cons (pv 1) (pa_cons (pe_bltn (by rfl) mT (by decide +kernel) (show RelV (.ty "tuple") (.type "tuple") from rfl)) pa_nil)))
          (pe_and (pe_cmpR op_le (pe_callB call_len_seq (by rfl) mLen PySem.boot_len (pa_cons (pv 1) pa_nil)) pe_int (nomark _))
            (pe_one (pe_cmpR (op_eqL0 hr.units) (pe_lc (own := [("_law_one", 2)]) (g := gName 2) (tt := tNot (tB (tCall spIsWord [] E0 (tCons (tVar 2) tNil)))) (te := tVar 2) rfl nd (pi_tup (pv 1))
              (blkOk_by (N := ["_law_kind", "_law_it", "_law_one"]) (sc := defScope sIsPart) (by decide +kernel)) (fun _ _ _ _ _ => pg_name (i := 2) nd rfl (Or.inl rfl) (Or.inr rfl)) (fun _ _ _ _ _ => pts_one (pt_not (pt_val (pe_call GW hr1 rfl mW kW bW .nil pass0 (pa_cons (pv 2) pa_nil)))))
              (fun _ _ _ _ _ => pv 2)) (pe_lst pa_nil) (nomark _))))))) pss_nil)
      (pss_cons (ps_if (pt_cmpR op_eq (pv 0) pe_str (nomark _)) (pss_one (ps_ret (pe_call GT hr rfl mG kT bT .nil pass0 (pa_cons (pv 1) (pa_cons pe_int pa_nil))))) pss_nil)
      (pss_cons (ps_if (pt_cmpR op_eq (pv 0) pe_str (nomark _)) (pss_one (ps_ret (pe_call GB hr1 rfl mB kB bB .nil pass0 (pa_cons (pv 1) (pa_cons pe_int (pa_cons pe_int pa_nil)))))) pss_nil)
      (pss_one (ps_ret (pe_or (pe_and (pe_cmpR op_eq (pv 0) pe_str (nomark _)) (pe_one (pe_cmp (pc_isN (pv 1)) rfl)))
        (pe_one (pe_call GB hr1 rfl mB kB bB .nil pass0 (pa_cons (pv 1) (pa_cons (pe_callTy call_int1 (by rfl) mInt (by decide +kernel) (pa_cons (pe_cmpR op_eq (pv 0) pe_str (nomark _)) pa_nil)) (pa_cons pe_int pa_nil))))))))))), ?_⟩
    cases kd with
    | S => cases hk
    | s => cases hk
    | w => exact ⟨_, rfl, rfl, _, rfl, iteB1 (by decide +kernel) ⟨_, rfl, m, v, d, rfl, hR, hz, k⟩⟩
    | v => exact ⟨_, rfl, rfl, _, rfl, iteB0 (by decide +kernel) ⟨_, rfl, rfl, _, rfl, iteB0 (by decide +kernel) ⟨_, rfl, rfl, _, rfl, iteB1 (by decide +kernel) ⟨_, rfl, m, v, d, rfl, hR, hz, k⟩⟩⟩⟩
    | r => exact ⟨_, rfl, rfl, _, rfl, iteB0 (by decide +kernel) ⟨_, rfl, rfl, _, rfl, iteB0 (by decide +kernel) ⟨_, rfl, rfl, _, rfl, iteB0 (by decide +kernel) ⟨_, rfl, rfl, _, rfl, iteB1 (by decide +kernel) ⟨_, rfl, m, v, d, 0, 5, rfl, hR, k H (Same.refl _)⟩⟩⟩⟩⟩
    | k =>
      refine ⟨_, rfl, rfl, _, rfl, iteB0 (by decide +kernel) ⟨_, rfl, rfl, _, rfl, iteB0 (by decide +kernel) ⟨_, rfl, rfl, _, rfl, iteB0 (by decide +kernel) ⟨_, rfl, rfl, _, rfl, iteB0 (by decide +kernel) ⟨_, rfl, rfl, _, rfl, iteB0 (by decide +kernel) ⟨_, rfl, iteF ⟨_, rfl, _, rfl, rfl, .inr ⟨_, rfl, m, v, d, 0, 1000, ?_, hR, k H (Same.refl _)⟩⟩⟩⟩⟩⟩⟩⟩
      exact congrArg (fun z : Int => [v, V.int z, V.int 1000]) (by decide +kernel)
    | e =>
      refine ⟨_, rfl, rfl, _, rfl, iteB0 (by decide +kernel) ⟨_, rfl, rfl, _, rfl, iteB0 (by decide +kernel) ⟨_, rfl, rfl, _, rfl, iteB0 (by decide +kernel) ⟨_, rfl, rfl, _, rfl, iteB0 (by decide +kernel) ⟨_, rfl, rfl, _, rfl, iteB0 (by decide +kernel) ⟨_, rfl, iteF ⟨_, rfl, _, rfl, rfl, .inr ⟨_, rfl, m, v, d, 1, 1000, ?_, hR, k H (Same.refl _)⟩⟩⟩⟩⟩⟩⟩⟩
      exact congrArg (fun z : Int => [v, V.int z, V.int 1000]) (by decide +kernel)
    | i =>
      have k' : Q (.bl (isNon d || btw 0 1000 d)) H := k H (Same.refl _)
      refine ⟨_, rfl, rfl, _, rfl, iteB0 (by decide +kernel) ⟨_, rfl, rfl, _, rfl, iteB0 (by decide +kernel) ⟨_, rfl, rfl, _, rfl, iteB0 (by decide +kernel) ⟨_, rfl, rfl, _, rfl, iteB0 (by decide +kernel) ⟨_, rfl, rfl, _, rfl, iteB1 (by decide +kernel) ⟨_, rfl, _, rfl, ?_⟩⟩⟩⟩⟩⟩
      rw [rep_nonn hR]
      cases hnn : isNon d with
      | true =>
        rw [hnn] at k'
        exact iteT k'
      | false =>
        rw [hnn, Bool.false_or] at k'
        refine iteF ⟨_, rfl, _, rfl, rfl, .inr ⟨_, rfl, m, v, d, 0, 1000, ?_, hR, k'⟩⟩
        exact congrArg (fun z : Int => [v, V.int z, V.int 1000]) (by decide +kernel)
    | n =>
      refine ⟨_, rfl, rfl, _, rfl, iteB0 (by decide +kernel) ⟨_, rfl, rfl, _, rfl, iteB1 (by decide +kernel) (rd_isi (.inr (.inr (.inr rfl))) rfl hR ⟨_, rfl, ?_⟩)⟩⟩
      rcases @notTup d with ⟨ds, rfl⟩ | hn
      · refine iteB1 rfl ?_
        obtain ⟨m', a, xs, rfl, rfl, ha, hp⟩ := rep_tup hR
        have hlen := Paired.length hp
        refine ⟨_, rfl, a, xs, rfl, .inr (SqT.of ha), _, _, rfl, rfl, _, rfl, ?_⟩
        by_cases h8 : ds.length ≤ 8
        · refine iteB1 (decide_eq_true (by omega)) ?_
          refine ⟨_, rfl, a, rfl, ⟨_, SqT.of ha⟩, fun D hD => ?_⟩
          refine lc_tup (K := K) (xs := xs) (fun i H' => Same H H' ∧ ∃ ys, H' D = some (.lst ys) ∧ ys.isEmpty = (ds.take i).all wdD ∧ ys.length ≤ i) ⟨Same.new (Same.refl _) hD, [], upd_same, rfl, Nat.le_refl _⟩ (fun i H' _ p => SqT.of (p.1 _ _ ha)) (fun i x H' hx p => ?_) (fun H' p => ?_)
          · obtain ⟨p1, ys, p2, p3, p4⟩ := p
            obtain ⟨e, he, hre⟩ := Paired.at hp hx
            have hsz : szD e ≤ 1000000 := by
              have h1 := szL_get he
              rw [szD] at hz
              omega
            have hix : i < 9 := by
              have := (List.getElem?_eq_some_iff.mp hx).1
              omega
            refine ⟨rfl, _, rfl, m', x, e, rfl, hre.same p1, hsz, fun H2 s2 => ⟨_, rfl, ?_⟩⟩
            cases hw : wdD e with
            | true =>
              refine iteF ⟨p1.trans s2, ys, s2 _ _ p2, ?_, by omega⟩
              rw [p3, take_snoc he, List.all_append]; simp [hw]
            | false =>
              refine iteT ⟨_, rfl, ys, s2 _ _ p2, Nat.lt_of_le_of_lt (show ys.length ≤ 20 by omega) (by decide), fun b o ec => ?_, ys ++ [x], upd_same, ?_, ?_⟩
              · rw [upd_ne (ne_of_none ec hD)]; exact s2 _ _ (p1 b o ec)
              · rw [take_snoc he, List.all_append]; simp [hw]
              · rw [List.length_append]; show _ + 1 ≤ _; omega
          · obtain ⟨p1, ys, p2, p3, p4⟩ := p
            rw [hlen, List.take_length] at p3
            refine ⟨by show 0 ≤ sizeLine; decide, fun q hq => ?_⟩
            have s2 : Same H' (upd H' q (.lst [])) := Same.new (Same.refl _) hq
            refine ⟨D, q, ys, rfl, rfl, SqL.of (s2 _ _ p2), SqL.of upd_same, ?_⟩
            have e2 : nmD (.tuple ds) = ys.isEmpty := by
              rw [nmD, decide_eq_true h8, Bool.true_and, p3]
            have : Q (.bl (nmD (.tuple ds))) _ := k _ (p1.trans s2)
            rw [e2] at this
            exact this
        · refine iteB0 (decide_eq_false (by omega)) ?_
          have e2 : nmD (.tuple ds) = false := by
            rw [nmD, decide_eq_false h8]; rfl
          have : Q (.bl (nmD (.tuple ds))) H := k H (Same.refl _)
          rw [e2] at this
          exact this
      · refine iteB0 (by cases d <;> first | rfl | exact absurd rfl (hn _)) ?_
        have e2 : nmD d = false := by cases d <;> first | rfl | exact absurd rfl (hn _)
        have : Q (.bl (nmD d)) H := k H (Same.refl _)
        rw [e2] at this
        exact this
end
end My

set_option Elab.async false
set_option linter.all false
set_option maxRecDepth 100000
set_option maxHeartbeats 4000000
namespace My
open PySem L2
section
variable {P : Program} {w : World} {K : PySem.W.Frag} {mg : Str → Option Value} {pB : Heap}
theorem drop_of {te : TE} {b : TS} {D : Ends} {σ : L2.St} {H : Hp} (h : te σ H fun _ H1 => b D σ H1) : tSeq (tDrop te) b D σ H := h
theorem fm1 : mergeK [] fk1 = fk1 := by decide +kernel
theorem fm2 : mergeK [] fk2 = fk2 := by decide +kernel
theorem fm3 : mergeK [] fk3 = fk3 := by decide +kernel
theorem fm4 : mergeK [] fk4 = fk4 := by decide +kernel
theorem fm5 : mergeK [] fk5 = fk5 := by decide +kernel
theorem fmA : mergeK (mergeK (mergeK (mergeK fk1 fk2) fk3) fk4) fk5 = formK := by decide +kernel
/-- a display of texts alone, read -/
theorem ok_forms {f : Addr} {fd : FuncData} (F : Fun K "_law_forms" "_law_forms" sForms f fd) : FnOk P w K mg pB CX0 1 f fd [] spForms := by
  refine F.ok scForms (fun vs H Q E h => ?_) (fun cdv A outer s H vs Q E hr h => ?_)
  · obtain ⟨rfl, _⟩ := h
    rfl
  · obtain ⟨rfl, k⟩ := h
    have nd := scForms.nd
    refine ⟨_, pss_cons (ps_set (i := 0) nd rfl (Or.inl rfl) (pe_disp (pps_cons pe_str pe_str (pps_cons pe_str pe_str (pps_cons pe_str pe_str (pps_cons pe_str pe_str (pps_cons pe_str pe_str (pps_cons pe_str pe_str (pps_cons pe_str pe_str pps_nil))))))) (by rfl) (by rfl) (fun z => by cases z) (by decide)))
      (pss_cons (ps_expr (pe_bm PySem.F.plainAttrs_dict PySem.F.slot_dict_update PySem.F.type_dict_update mt_update (pv 0) (pa_cons (pe_disp (pps_cons pe_str pe_str (pps_cons pe_str pe_str (pps_cons pe_str pe_str (pps_cons pe_str pe_str (pps_cons pe_str pe_str (pps_cons pe_str pe_str (pps_cons pe_str pe_str pps_nil))))))) (by rfl) (by rfl) (fun z => by cases z) (by decide)) pa_nil)))
      (pss_cons (ps_expr (pe_bm PySem.F.plainAttrs_dict PySem.F.slot_dict_update PySem.F.type_dict_update mt_update (pv 0) (pa_cons (pe_disp (pps_cons pe_str pe_str (pps_cons pe_str pe_str (pps_cons pe_str pe_str (pps_cons pe_str pe_str (pps_cons pe_str pe_str (pps_cons pe_str pe_str (pps_cons pe_str pe_str pps_nil))))))) (by rfl) (by rfl) (fun z => by cases z) (by decide)) pa_nil)))
      (pss_cons (ps_expr (pe_bm PySem.F.plainAttrs_dict PySem.F.slot_dict_update PySem.F.type_dict_update mt_update (pv 0) (pa_cons (pe_disp (pps_cons pe_str pe_str (pps_cons pe_str pe_str (pps_cons pe_str pe_str (pps_cons pe_str pe_str (pps_cons pe_str pe_str (pps_cons pe_str pe_str (pps_cons pe_str pe_str pps_nil))))))) (by rfl) (by rfl) (fun z => by cases z) (by decide)) pa_nil)))
      (pss_cons (ps_expr (pe_bm PySem.F.plainAttrs_dict PySem.F.slot_dict_update PySem.F.type_dict_update mt_update (pv 0) (pa_cons (pe_disp (pps_cons pe_str pe_str (pps_cons pe_str pe_str pps_nil)) (by rfl) (by rfl) (fun z => by cases z) (by decide)) pa_nil)))
      (pss_one (ps_ret (pv 0))))))), ?_⟩
    refine asg_n (fun p hp => ⟨upd_same, fk1, rfl, by decide, ?_⟩)
    rw [fm1]
    have c1 : (upd (upd H p (.dK [])) p (.dK fk1)) p = some (.dK fk1) := upd_same
    have n1 : ∀ b o, H b = some o → (upd (upd H p (.dK [])) p (.dK fk1)) b = some o := fun b o e => by rw [upd_ne (ne_of_none e hp), upd_ne (ne_of_none e hp)]; exact e
    generalize upd (upd H p (.dK [])) p (.dK fk1) = J1 at c1 n1 ⊢
    refine drop_of ⟨_, rfl, .inr (.inr (.inl ⟨rfl, .inl ⟨_, c1⟩⟩)), fun p2 hp2 => ⟨upd_same, fk2, rfl, by decide, p, p2, fk1, mergeK [] fk2, rfl, rfl, ?_, upd_same, ne_of_none c1 hp2, by decide +kernel, ?_⟩⟩
    · rw [upd_ne (ne_of_none c1 hp2), upd_ne (ne_of_none c1 hp2)]; exact c1
    rw [fm2]
    have c2 : (upd (upd (upd J1 p2 (.dK [])) p2 (.dK fk2)) p (.dK (mergeK fk1 fk2))) p = some (.dK (mergeK fk1 fk2)) := upd_same
    have n2 : ∀ b o, H b = some o → (upd (upd (upd J1 p2 (.dK [])) p2 (.dK fk2)) p (.dK (mergeK fk1 fk2))) b = some o := fun b o e => by rw [upd_ne (ne_of_none e hp), upd_ne (ne_of_none (n1 b o e) hp2), upd_ne (ne_of_none (n1 b o e) hp2)]; exact n1 b o e
    generalize upd (upd (upd J1 p2 (.dK [])) p2 (.dK fk2)) p (.dK (mergeK fk1 fk2)) = J2 at c2 n2 ⊢
    refine drop_of ⟨_, rfl, .inr (.inr (.inl ⟨rfl, .inl ⟨_, c2⟩⟩)), fun p3 hp3 => ⟨upd_same, fk3, rfl, by decide, p, p3, (mergeK fk1 fk2), mergeK [] fk3, rfl, rfl, ?_, upd_same, ne_of_none c2 hp3, by decide +kernel, ?_⟩⟩
    · rw [upd_ne (ne_of_none c2 hp3), upd_ne (ne_of_none c2 hp3)]; exact c2
    rw [fm3]
    have c3 : (upd (upd (upd J2 p3 (.dK [])) p3 (.dK fk3)) p (.dK (mergeK (mergeK fk1 fk2) fk3))) p = some (.dK (mergeK (mergeK fk1 fk2) fk3)) := upd_same
    have n3 : ∀ b o, H b = some o → (upd (upd (upd J2 p3 (.dK [])) p3 (.dK fk3)) p (.dK (mergeK (mergeK fk1 fk2) fk3))) b = some o := fun b o e => by rw [upd_ne (ne_of_none e hp), upd_ne (ne_of_none (n2 b o e) hp3), upd_ne (ne_of_none (n2 b o e) hp3)]; exact n2 b o e
    generalize upd (upd (upd J2 p3 (.dK [])) p3 (.dK fk3)) p (.dK (mergeK (mergeK fk1 fk2) fk3)) = J3 at c3 n3 ⊢
    refine drop_of ⟨_, rfl, .inr (.inr (.inl ⟨rfl, .inl ⟨_, c3⟩⟩)), fun p4 hp4 => ⟨upd_same, fk4, rfl, by decide, p, p4, (mergeK (mergeK fk1 fk2) fk3), mergeK [] fk4, rfl, rfl, ?_, upd_same, ne_of_none c3 hp4, by decide +kernel, ?_⟩⟩
    · rw [upd_ne (ne_of_none c3 hp4), upd_ne (ne_of_none c3 hp4)]; exact c3
    rw [fm4]
    have c4 : (upd (upd (upd J3 p4 (.dK [])) p4 (.dK fk4)) p (.dK (mergeK (mergeK (mergeK fk1 fk2) fk3) fk4))) p = some (.dK (mergeK (mergeK (mergeK fk1 fk2) fk3) fk4)) := upd_same
    have n4 : ∀ b o, H b = some o → (upd (upd (upd J3 p4 (.dK [])) p4 (.dK fk4)) p (.dK (mergeK (mergeK (mergeK fk1 fk2) fk3) fk4))) b = some o := fun b o e => by rw [upd_ne (ne_of_none e hp), upd_ne (ne_of_none (n3 b o e) hp4), upd_ne (ne_of_none (n3 b o e) hp4)]; exact n3 b o e
    generalize upd (upd (upd J3 p4 (.dK [])) p4 (.dK fk4)) p (.dK (mergeK (mergeK (mergeK fk1 fk2) fk3) fk4)) = J4 at c4 n4 ⊢
    refine drop_of ⟨_, rfl, .inr (.inr (.inl ⟨rfl, .inl ⟨_, c4⟩⟩)), fun p5 hp5 => ⟨upd_same, fk5, rfl, by decide, p, p5, (mergeK (mergeK (mergeK fk1 fk2) fk3) fk4), mergeK [] fk5, rfl, rfl, ?_, upd_same, ne_of_none c4 hp5, by decide +kernel, ?_⟩⟩
    · rw [upd_ne (ne_of_none c4 hp5), upd_ne (ne_of_none c4 hp5)]; exact c4
    rw [fm5]
    have c5 : (upd (upd (upd J4 p5 (.dK [])) p5 (.dK fk5)) p (.dK (mergeK (mergeK (mergeK (mergeK fk1 fk2) fk3) fk4) fk5))) p = some (.dK (mergeK (mergeK (mergeK (mergeK fk1 fk2) fk3) fk4) fk5)) := upd_same
    have n5 : ∀ b o, H b = some o → (upd (upd (upd J4 p5 (.dK [])) p5 (.dK fk5)) p (.dK (mergeK (mergeK (mergeK (mergeK fk1 fk2) fk3) fk4) fk5))) b = some o := fun b o e => by rw [upd_ne (ne_of_none e hp), upd_ne (ne_of_none (n4 b o e) hp5), upd_ne (ne_of_none (n4 b o e) hp5)]; exact n4 b o e
    generalize upd (upd (upd J4 p5 (.dK [])) p5 (.dK fk5)) p (.dK (mergeK (mergeK (mergeK (mergeK fk1 fk2) fk3) fk4) fk5)) = J5 at c5 n5 ⊢
    rw [fmA] at c5
    exact ⟨_, rfl, k p J5 n5 c5⟩
end
end My

set_option Elab.async false
set_option linter.all false
set_option maxRecDepth 100000
set_option maxHeartbeats 4000000
namespace My
open PySem L2
section
variable {P : Program} {w : World} {K : PySem.W.Frag} {mg : Str → Option Value} {pB : Heap}
theorem asg_1 {te : TE} {i : Nat} {D : Ends} {σ : L2.St} {H : Hp} (h : te σ H fun x H1 => D.nx (σ.set i (some x)) H1) : tAsg te (gName i) D σ H := h
theorem val_l (x : Str) : ∀ l : List (Str × List Kd), valV (l.map fun p => ((Sum.inr p.1 : Key), V.str (ksignS p.2))) (Sum.inr x) = (l.find? fun p => decide (p.1 = x)).map fun p => V.str (ksignS p.2)
  | [] => rfl
  | p :: l => by
    by_cases e : p.1 = x
    · rw [List.map_cons, List.find?_cons_of_pos (by simpa using e), e]
      exact valV_pos rfl
    · rw [List.map_cons, List.find?_cons_of_neg (by simpa using e), valV_neg (fun z => e (Sum.inr.inj z))]
      exact val_l x l
theorem val_form (x : Str) : valV formK (Sum.inr x) = (formOf x).map fun ks => V.str (ksignS ks) := by
  rw [formK, val_l, formOf, Option.map_map]
  rfl
theorem form_all : ∀ p ∈ formL, p.2.length ≤ 9 := by decide
theorem form_len {x : Str} {ks : List Kd} (h : formOf x = some ks) : ks.length ≤ 9 := by
  unfold formOf at h
  obtain ⟨p, hp, rfl⟩ := Option.map_eq_some_iff.mp h
  exact form_all p (List.mem_of_find?_eq_some hp)
theorem sumO_none {l : List (Option Nat)} {j : Nat} (hj : l[j]? = some none) : sumO l = none := by
  have hl : j < l.length := (List.getElem?_eq_some_iff.mp hj).1
  have e1 : l = l.take j ++ (none :: l.drop (j + 1)) := by
    rw [List.getElem?_eq_getElem hl] at hj
    rw [← Option.some.inj hj, ← List.drop_eq_getElem_cons hl, List.take_append_drop]
  rw [e1, sumO_app]
  cases sumO (l.take j) <;> rfl
/-- a count, or a thousand and more -/
def Cn (o : Option Nat) (M : Int) : Prop := 0 ≤ M ∧ (∀ c, o = some c → M = (c : Int)) ∧ (o = none → 1000 ≤ M)
theorem Cn.snoc {l : List (Option Nat)} {j : Nat} {o : Option Nat} {M N : Int} (h : Cn (sumO (l.take j)) M) (hj : l[j]? = some o) (ho : Cn o N) : Cn (sumO (l.take (j + 1))) (M + N) := by
  rw [take_snoc hj, sumO_app]
  obtain ⟨h0, h1, h2⟩ := h
  obtain ⟨g0, g1, g2⟩ := ho
  cases hs : sumO (l.take j) with
  | none => exact ⟨by omega, fun c e => (by cases e), fun _ => (by have := h2 hs; omega)⟩
  | some a =>
    have e1 := h1 a hs
    cases o with
    | none => exact ⟨by omega, fun c e => (by cases e), fun _ => (by have := g2 rfl; omega)⟩
    | some b =>
      have e2 := g1 b rfl
      refine ⟨by omega, fun c e => ?_, fun e => by cases e⟩
      have e3 : a + (b + 0) = c := Option.some.inj e
      omega
theorem Cn.zero : Cn (some 0) 0 := ⟨by omega, fun c e => (by cases e; rfl), fun e => (by cases e)⟩
def spMany (n : Nat) : Sp := fun vs H Q _ => ∃ (m : Nat) (v : V) (d : PyData), vs = [v, .int (n : Int)] ∧ Rep H m v d ∧ szD d ≤ 1000000 ∧ ∀ (M : Int) (H' : Hp), Same H H' → Cn (cnt n d) M → Q (.int M) H'
def spPrevM : Nat → Sp
  | 0 => spBot
  | n + 1 => spMany n
abbrev sMany : Stmt := top 38
theorem scMany : FnScope ["_law_it", "_law_left", "_law_found", "_law_forms_here", "_law_deed", "_law_kind", "_law_part_here"] ["_law_it", "_law_left"] (defScope sMany) := ⟨rfl, rfl, rfl, by decide +kernel, rfl, by decide +kernel, by decide +kernel⟩
theorem step_many {f fF fP : Addr} {fd dF dP : FuncData} (F : Fun K "_law_many" "_law_many" sMany f fd) (n : Nat) (G : FnOk P w K mg pB CX0 (n + 7) f fd ["_law_it", "_law_left"] (spPrevM n)) (mG : mg "_law_many" = some (.ref f)) (bG : Binds K fd ["_law_it", "_law_left"] [])
    (GF : FnOk P w K mg pB CX0 1 fF dF [] spForms) (mF : mg "_law_forms" = some (.ref fF)) (kF : PySem.W.keepIn K (.ref fF) = true) (bF : Binds K dF [] [])
    (GP : FnOk P w K mg pB CX0 7 fP dP ["_law_kind", "_law_it"] spIsPart) (mP : mg "_law_is_part" = some (.ref fP)) (kP : PySem.W.keepIn K (.ref fP) = true) (bP : Binds K dP ["_law_kind", "_law_it"] [])
    (mI : mg "isinstance" = none) (mT : mg "tuple" = none) (mS : mg "str" = none) (mLen : mg "len" = none) (mZ : mg "zip" = none) : FnOk P w K mg pB CX0 (n + 8) f fd ["_law_it", "_law_left"] (spMany n) := by
  refine F.ok scMany (fun vs H Q E h => ?_) (fun cdv A outer s H vs Q E hr h => ?_)
  · obtain ⟨m, v, d, rfl, _⟩ := h
    rfl
  · obtain ⟨m, v, d, rfl, hR, hz, k⟩ := h
    have nd := scMany.nd
    have hr1 : Room 1 _ := hr.mono (by omega)
    have hr7 : Room 7 _ := hr.mono (by omega)
    have hu := hu_of hr
    refine ⟨_, pss_cons (ps_if (PW.pt (pw_or (pt_cmpR op_eq (pv 1) pe_int (nomark _)) (pw_or1 (pt_not (pt_val (pe_callB call_isi (by rfl) mI (by decide +kernel) (pa_cons (pv 0) (pa_cons (pe_bltn (by rfl) mT (by decide +kernel) (show RelV (.ty "tuple") (.type "tuple") from rfl)) pa_nil)))))))) (pss_one (ps_ret pe_int)) pss_nil)
      (pss_cons (ps_par (by rfl) nd (i := 2) (j := 3) rfl rfl (by decide) rfl rfl (pa_cons pe_int (pa_cons (pe_call0 GF hr1 rfl mF kF bF .nil pass0) pa_nil)) (by rfl))
      (pss_cons (ps_for PassesOwn.never rfl (pi_tup (pv 0)) (pg_name (i := 4) nd rfl (Or.inl rfl))
        (pss_cons (ps_if (PW.pt (pw_or (pt_not (pt_val (pe_callB call_isi (by rfl) mI (by decide +kernel) (pa_cons (pv 4) (pa_cons (pe_bltn (by rfl) mT (by decide +kernel) (show RelV (.ty "tuple") (.type "tuple") from rfl)) pa_nil)))))
            (pw_or (pt_cmpR (op_eqT0 hr.units) (pv 4) (pe_tup pa_nil) (nomark _)) (pw_or (pt_not (pt_val (pe_callB call_isi (by rfl) mI (by decide +kernel) (pa_cons (pe_ix ix_tup (pv 4) pe_int (fun _ _ => rfl)) (pa_cons (pe_bltn (by rfl) mS (by decide +kernel) (show RelV (.ty "str") (.type "str") from rfl)) pa_nil)))))
              (pw_or1 (pt_cmp (pc_dnotin hu (pe_ix ix_tup (pv 4) pe_int (fun _ _ => rfl)) (pv 3)))))))) (pss_one (ps_ret pe_int)) pss_nil)
        (pss_cons (ps_if (pt_cmpR op_ne (pe_callB call_len_seq (by rfl) mLen PySem.boot_len (pa_cons (pv 4) pa_nil)) (pe_op op_add pe_int (pe_callB call_len_str (by rfl) mLen PySem.boot_len (pa_cons (pe_dget hu (pv 3) (pe_ix ix_tup (pv 4) pe_int (fun _ _ => rfl)) (fun _ _ => rfl)) pa_nil))) (nomark _)) (pss_one (ps_ret pe_int)) pss_nil)
        (pss_cons (ps_set (i := 2) nd rfl (Or.inl rfl) (pe_op op_add (pv 2) pe_int))
        (pss_one (ps_for PassesOwn.never rfl (pi_zipS (by rfl) mZ (pa_cons (pe_dget hu (pv 3) (pe_ix ix_tup (pv 4) pe_int (fun _ _ => rfl)) (fun _ _ => rfl)) (pa_cons (pe_slice sl_tupA (pv 4) (po_some pe_int) po_none) pa_nil)))
          (pg_tup (by rfl) (pgs_cons (pg_name (i := 5) nd rfl (Or.inl rfl)) (pgs_cons (pg_name (i := 6) nd rfl (Or.inl rfl)) pgs_nil)))
          (pss_one (ps_if (PW.pt (pw_and (pt_cmpR op_in_sign (pv 5) pe_str rfl) (pw_and1 (PW.pt (pw_or (pt_cmpR op_eq (pv 5) pe_str (nomark _)) (pw_or1 (pt_cmp (pc_notN (pv 6)))))))))
            (pss_one (ps_set (i := 2) nd rfl (Or.inl rfl) (pe_op op_add (pv 2) (pe_call G hr rfl mG F.kp bG .nil pass0 (pa_cons (pv 6) (pa_cons (pe_op op_sub (pv 1) pe_int) pa_nil))))))
            (pss_one (ps_if (PW.pt (pw_and (pt_cmpR op_notIn_sign (pv 5) pe_str rfl) (pw_and1 (pt_not (pt_val (pe_call GP hr7 rfl mP kP bP .nil pass0 (pa_cons (pv 5) (pa_cons (pv 6) pa_nil)))))))) (pss_one (ps_ret pe_int)) pss_nil))))))))))
      (pss_one (ps_ret (pv 2))))), ?_⟩
    have out : cnt n d = none → ∀ H', Same H H' → Q (.int 1000) H' := fun e H' s' => k 1000 H' s' ⟨by decide, fun c h => (by rw [e] at h; cases h), fun _ => by decide⟩
    cases n with
    | zero => exact ⟨_, rfl, rfl, _, rfl, iteY rfl (iteT (out rfl H (Same.refl _)))⟩
    | succ n =>
    refine ⟨_, rfl, rfl, _, rfl, iteN (by intro z; have := V.int.inj z; omega) ?_⟩
    refine rd_isi (.inr (.inr (.inr rfl))) rfl hR ⟨_, rfl, ?_⟩
    rcases @notTup d with ⟨ds, rfl⟩ | hn
    · refine iteB0 rfl ?_
      obtain ⟨m', a, xs, rfl, rfl, ha, hp⟩ := rep_tup hR
      have hlen := Paired.length hp
      have hzs : szL ds ≤ 1000000 := by rw [szD] at hz; omega
      refine nxt_of (par_of ?_)
      refine ⟨rfl, fun p H1 s1 c1 => ⟨_, _, rfl, ?_⟩⟩
      have ca1 := s1 _ _ ha
      refine ⟨_, rfl, a, rfl, ⟨_, SqT.of ca1⟩, for_tup (xs := xs) (fun j σ H3 => ∃ (M : Int) (x4 x5 x6 : Option V), σ = [some (.ref a), some (.int ((n + 1 : Nat) : Int)), some (.int (M + j)), some (.ref p), x4, x5, x6] ∧ Same H1 H3 ∧ Cn (sumO ((ds.map (deedB (cnt n))).take j)) M) ?_ ?_ ?_ ?_⟩
      · exact ⟨0, none, none, none, rfl, Same.refl _, Cn.zero⟩
      · rintro j σ H3 _ ⟨M, x4, x5, x6, rfl, s3, _⟩
        exact SqT.of (s3 _ _ ca1)
      · rintro j y σ H3 hy ⟨M, x4, x5, x6, rfl, s3, hM⟩
        obtain ⟨e, he, hre⟩ := Paired.at hp hy
        have hsz : szD e ≤ 1000000 := Nat.le_trans (szL_get he) hzs
        have hL : (ds.map (deedB (cnt n)))[j]? = some (deedB (cnt n) e) := by rw [List.getElem?_map, he]; rfl
        have bad : deedB (cnt n) e = none → ∀ H', Same H3 H' → Q (.int 1000) H' := fun hb H' s' => out (by rw [cnt, sumO_none (by rw [hL, hb])]; rfl) H' (s1.trans (s3.trans s'))
        have hre3 := (hre.same s1).same s3
        have cp3 := s3 _ _ c1
        refine rd_isi (i := 4) (.inr (.inr (.inr rfl))) rfl hre3 ⟨_, rfl, ?_⟩
        rcases @notTup e with ⟨es, rfl⟩ | hne
        rotate_left
        · refine iteB1 (by cases e <;> first | rfl | exact absurd rfl (hne _)) (iteT (bad ?_ H3 (Same.refl _)))
          cases e <;> first | rfl | exact absurd rfl (hne _)
        refine iteB0 rfl ?_
        obtain ⟨m2, b, zs, rfl, rfl, hb, hpz⟩ := rep_tup hre3
        refine ⟨_, rfl, by show 0 ≤ sizeLine; decide, fun t0 ht0 => ?_⟩
        have s4 : Same H3 (upd H3 t0 (.tup [])) := Same.new (Same.refl _) ht0
        have hb4 := s4 _ _ hb
        have cp4 := s4 _ _ cp3
        refine ⟨b, t0, zs, rfl, rfl, SqT.of hb4, SqT.of upd_same, _, rfl, ?_⟩
        cases hpz with
        | nil => exact iteT (iteT (bad rfl _ s4))
        | @cons x e0 zs es hx0 hpz =>
          have hlz := Paired.length hpz
          refine iteF ?_
          have hat : atI (x :: zs) 0 = some x := atI_nat (xs := x :: zs) (j := 0) (v := x) rfl
          have hx4 := hx0.same s4
          refine ⟨_, rfl, b, _, 0, x, rfl, rfl, SqT.of hb4, hat, x, .ty "str", .type (tyN e0), .type "str", _, rfl, .ty "str", hx4.ty, kit_ty (kit_T (.inl rfl) e0), _, rfl, ?_⟩
          by_cases hst : ∃ y, e0 = .str y
          rotate_left
          · refine iteB1 (by cases e0 <;> first | rfl | exact absurd ⟨_, rfl⟩ hst) (iteT (bad ?_ _ s4))
            cases e0 <;> first | rfl | exact absurd ⟨_, rfl⟩ hst
          obtain ⟨y, rfl⟩ := hst
          cases rep_str hx0
          refine iteB0 rfl ?_
          have hgk : DGet (upd H3 t0 (.tup [])) p (.str y) (valV formK (Sum.inr y)) := DGet.k (k := Sum.inr y) cp4
          refine ⟨_, rfl, b, _, 0, _, rfl, rfl, SqT.of hb4, hat, _, rfl, p, _, rfl, hgk, _, rfl, ?_⟩
          rw [val_form] at hgk ⊢
          cases hf : formOf y with
          | none =>
            refine iteB1 rfl (bad ?_ _ s4)
            show (match formOf y with | some ks => if es.length = ks.length then sumO (List.zipWith (partB (cnt n)) ks es) else none | none => none) = none
            rw [hf]
          | some ks =>
            rw [hf] at hgk
            have hgk : DGet (upd H3 t0 (.tup [])) p (.str y) (some (.str (ksignS ks))) := hgk
            have hde : deedB (cnt n) (.tuple (.str y :: es)) = if es.length = ks.length then sumO (List.zipWith (partB (cnt n)) ks es) else none := by
              show (match formOf y with | some ks => if es.length = ks.length then sumO (List.zipWith (partB (cnt n)) ks es) else none | none => none) = _
              rw [hf]
            have hkl : (ksignS ks).length = ks.length := by
              show (ks.map ksign).toArray.size = _
              rw [List.size_toArray, List.length_map]
            have hk9 := form_len hf
            refine iteB0 rfl ?_
            refine nxt_of ⟨_, rfl, b, _, rfl, .inr (SqT.of hb4), _, rfl, _, rfl, b, _, 0, _, rfl, rfl, SqT.of hb4, hat, p, _, rfl, hgk, _, rfl, Nat.le_trans (show (ksignS ks).length ≤ 1000 by omega) (by decide), _, _, rfl, rfl, rfl, _, rfl, ?_⟩
            by_cases hle : es.length = ks.length
            rotate_left
            · refine iteB1 ?_ (bad (by rw [hde, if_neg hle]) _ s4)
              rw [decide_eq_false (fun z => hle (by have := V.int.inj z; rw [List.length_cons, hkl] at this; omega))]
              rfl
            refine iteB0 ?_ (nxt_of (asg_n ⟨_, rfl, _, _, rfl, rfl, ?_⟩))
            · rw [decide_eq_true (congrArg V.int (by rw [List.length_cons, hkl]; omega))]
              rfl
            rw [if_pos hle] at hde
            have hb4' : (upd H3 t0 (.tup [])) b = some (.tup (.str y :: zs)) := hb4
            refine ⟨_, rfl, _, rfl, b, _, 0, _, rfl, rfl, SqT.of hb4, hat, p, _, rfl, hgk, _, rfl, _, rfl, np_of (rd_slT hb4' fun p2 H5 s5 c5 => ?_)⟩
            rw [cut_from _ (by decide) (by rw [List.length_cons]; omega)] at c5
            have c5 : H5 p2 = some (.tup zs) := c5
            have hpz5 : Paired (Rep H5 m2) zs es := Paired.mapP hpz fun _ _ z => (z.same s4).same s5
            have hcz : (ksignS ks).cps.size = zs.length := by
              have : (ksignS ks).cps.size = ks.length := hkl
              omega
            have hzes : szL es ≤ 1000000 := by
              rw [szD, szL] at hsz
              omega
            refine ⟨ksignS ks, p2, zs, rfl, SqT.of c5, for_zipS hcz (fun i σ H6 => ∃ (G : Int) (x5 x6 : Option V), σ = [some (.ref a), some (.int ((n + 1 : Nat) : Int)), some (.int (M + j + 1 + G)), some (.ref p), some (.ref b), x5, x6] ∧ Same H5 H6 ∧ Cn (sumO ((List.zipWith (partB (cnt n)) ks es).take i)) G) ?_ ?_ ?_ ?_⟩
            · refine ⟨0, x5, x6, ?_, Same.refl _, Cn.zero⟩
              rw [Int.add_zero]
              rfl
            · rintro i σ H6 ⟨G, x5, x6, rfl, s6, _⟩
              exact SqT.of (s6 _ _ c5)
            · rintro i c u T σ H6 hci hui ⟨G, x5, x6, rfl, s6, hG⟩ hTn
              have hki : ∃ kd, ks[i]? = some kd ∧ c = ksign kd := by
                have e1 : (ks.map ksign)[i]? = some c := by rw [← hci]; simp [ksignS]
                rw [List.getElem?_map] at e1
                obtain ⟨kd, q1, q2⟩ := Option.map_eq_some_iff.mp e1
                exact ⟨kd, q1, q2.symm⟩
              obtain ⟨kd, hkd, rfl⟩ := hki
              obtain ⟨e', he', hre'⟩ := Paired.at hpz5 hui
              have s7 : Same H6 (upd H6 T (.tup [.str ⟨#[ksign kd]⟩, u])) := Same.new (Same.refl _) hTn
              have hre7 := (hre'.same s6).same s7
              have hsz' : szD e' ≤ 1000000 := Nat.le_trans (szL_get he') hzes
              have hLi : (List.zipWith (partB (cnt n)) ks es)[i]? = some (partB (cnt n) kd e') := by
                rw [List.getElem?_zipWith, hkd, he']
              have t3 : decide (ksign kd ∈ (Str.ofString "Ss").cps.toList) = isScr kd := by cases kd <;> decide +kernel
              have t4 : decide (V.str ⟨#[ksign kd]⟩ = V.str "S") = decide (kd = .S) := by cases kd <;> decide +kernel
              have stay : partB (cnt n) kd e' = some 0 → ∃ (G' : Int) (x5 x6 : Option V), [some (.ref a), some (.int ((n + 1 : Nat) : Int)), some (.int (M + j + 1 + G)), some (.ref p), some (.ref b), some (.str ⟨#[ksign kd]⟩), some u] = [some (V.ref a), some (.int ((n + 1 : Nat) : Int)), some (.int (M + j + 1 + G')), some (.ref p), some (.ref b), x5, x6] ∧ Same H5 (upd H6 T (.tup [.str ⟨#[ksign kd]⟩, u])) ∧ Cn (sumO ((List.zipWith (partB (cnt n)) ks es).take (i + 1))) G' := fun h0 =>
                ⟨G, _, _, rfl, s6.trans s7, by have := hG.snoc hLi (N := 0) (by rw [h0]; exact Cn.zero); rw [Int.add_zero] at this; exact this⟩
              refine ⟨T, _, rfl, SqT.of upd_same, rfl, _, _, rfl, _, _, rfl, rfl, ?_⟩
              refine ⟨_, rfl, ksign kd, _, rfl, rfl, _, rfl, ?_⟩
              rcases Bool.eq_false_or_eq_true (isScr kd) with hk | hk
              · refine iteB1 (t3.trans hk) ⟨_, rfl, rfl, _, rfl, ?_⟩
                by_cases hS : kd = .S
                · refine iteB1 (by rw [t4]; exact decide_eq_true hS) ?_
                  have hpB : partB (cnt n) kd e' = cnt n e' := by rw [partB, if_pos hk, if_neg (by rw [hS]; intro z; cases z.1)]
                  refine iteT ?_
                  refine asg_1 ⟨_, rfl, call_of (sp := spMany n) ⟨_, rfl, _, rfl, _, _, rfl, rfl, m2, u, e', ?_, hre7, hsz', fun M' H8 s8 hC => ⟨_, _, rfl, rfl, ?_⟩⟩⟩
                  · show [u, V.int (((n + 1 : Nat) : Int) - 1)] = [u, V.int (n : Int)]
                    rw [show (((n + 1 : Nat) : Int) - 1) = (n : Int) by omega]
                  refine ⟨G + M', some (.str ⟨#[ksign kd]⟩), some u, ?_, s6.trans (s7.trans s8), hG.snoc hLi (by rw [hpB]; exact hC)⟩
                  rw [show M + j + 1 + (G + M') = M + j + 1 + G + M' by omega]
                  rfl
                · refine iteB0 (by rw [t4]; exact decide_eq_false hS) ⟨_, rfl, _, rfl, ?_⟩
                  rw [rep_nonn hre7]
                  have hs : kd = .s := by cases kd <;> first | rfl | exact absurd rfl hS | exact absurd hk (by decide)
                  rcases Bool.eq_false_or_eq_true (isNon e') with hno | hno
                  · refine iteB0 (by rw [hno]; rfl) ?_
                    refine ⟨_, rfl, ksign kd, _, rfl, rfl, _, rfl, iteB0 (by rw [t3, hk]; rfl) ?_⟩
                    exact stay (by rw [partB, if_pos hk, if_pos ⟨hs, hno⟩])
                  · refine iteB1 (by rw [hno]; rfl) ?_
                    have hpB : partB (cnt n) kd e' = cnt n e' := by rw [partB, if_pos hk, if_neg (by rw [hno]; intro z; cases z.2)]
                    refine asg_1 ⟨_, rfl, call_of (sp := spMany n) ⟨_, rfl, _, rfl, _, _, rfl, rfl, m2, u, e', ?_, hre7, hsz', fun M' H8 s8 hC => ⟨_, _, rfl, rfl, ?_⟩⟩⟩
                    · show [u, V.int (((n + 1 : Nat) : Int) - 1)] = [u, V.int (n : Int)]
                      rw [show (((n + 1 : Nat) : Int) - 1) = (n : Int) by omega]
                    refine ⟨G + M', some (.str ⟨#[ksign kd]⟩), some u, ?_, s6.trans (s7.trans s8), hG.snoc hLi (by rw [hpB]; exact hC)⟩
                    rw [show M + j + 1 + (G + M') = M + j + 1 + G + M' by omega]
                    rfl
              · have hpB : partB (cnt n) kd e' = if partOk kd e' = true then some 0 else none := by rw [partB, if_neg (by rw [hk]; decide)]
                refine iteB0 (t3.trans hk) ?_
                refine ⟨_, rfl, ksign kd, _, rfl, rfl, _, rfl, iteB1 (by rw [t3, hk]; rfl) ?_⟩
                refine ⟨_, rfl, _, rfl, m2, u, e', kd, rfl, hk, hre7, hsz', fun H8 s8 => ⟨_, rfl, ?_⟩⟩
                rcases Bool.eq_false_or_eq_true (partOk kd e') with ho | ho
                · refine iteB0 (by rw [ho]; rfl) ?_
                  exact ⟨G, some (.str ⟨#[ksign kd]⟩), some u, rfl, s6.trans (s7.trans s8), by have := hG.snoc hLi (N := 0) (by rw [hpB, if_pos ho]; exact Cn.zero); rw [Int.add_zero] at this; exact this⟩
                · refine iteB1 (by rw [ho]; rfl) (bad ?_ H8 (s4.trans (s5.trans (s6.trans (s7.trans s8)))))
                  rw [hde]
                  exact sumO_none (by rw [hLi, hpB, if_neg (by rw [ho]; decide)])
            · rintro σ H6 ⟨G, x5, x6, rfl, s6, hG⟩
              have hfull : (List.zipWith (partB (cnt n)) ks es).take zs.length = List.zipWith (partB (cnt n)) ks es := by
                rw [List.take_of_length_le]
                rw [List.length_zipWith]; omega
              rw [hfull, ← hde] at hG
              refine ⟨M + G, some (.ref b), x5, x6, ?_, s3.trans (s4.trans (s5.trans s6)), hM.snoc hL hG⟩
              rw [show M + G + ((j + 1 : Nat) : Int) = M + j + 1 + G by omega]
      · rintro σ H3 ⟨M, x4, x5, x6, rfl, s3, hM⟩
        have hfull : (ds.map (deedB (cnt n))).take xs.length = ds.map (deedB (cnt n)) := by
          rw [List.take_of_length_le]
          rw [List.length_map]; omega
        rw [hfull] at hM
        refine ⟨_, rfl, k _ H3 (s1.trans s3) ?_⟩
        obtain ⟨q0, q1, q2⟩ := hM
        rw [cnt]
        cases hs : sumO (ds.map (deedB (cnt n))) with
        | none => exact ⟨by omega, fun c e => (by cases e), fun _ => (by have := q2 hs; omega)⟩
        | some c =>
          have := q1 c hs
          refine ⟨by omega, fun c' e => ?_, fun e => (by cases e)⟩
          have e3 : ds.length + c = c' := Option.some.inj e
          omega
    · refine iteB1 (by cases d <;> first | rfl | exact absurd rfl (hn _)) (out ?_ H (Same.refl _))
      cases d <;> first | rfl | exact absurd rfl (hn _)
end
end My

set_option Elab.async false
set_option linter.all false
set_option maxRecDepth 100000
set_option maxHeartbeats 4000000
namespace My
open PySem L2
section
variable {P : Program} {w : World} {K : PySem.W.Frag} {mg : Str → Option Value} {pB : Heap}
theorem ok_many {f fF fP : Addr} {fd dF dP : FuncData} (F : Fun K "_law_many" "_law_many" sMany f fd) (mG : mg "_law_many" = some (.ref f)) (bG : Binds K fd ["_law_it", "_law_left"] [])
    (GF : FnOk P w K mg pB CX0 1 fF dF [] spForms) (mF : mg "_law_forms" = some (.ref fF)) (kF : PySem.W.keepIn K (.ref fF) = true) (bF : Binds K dF [] [])
    (GP : FnOk P w K mg pB CX0 7 fP dP ["_law_kind", "_law_it"] spIsPart) (mP : mg "_law_is_part" = some (.ref fP)) (kP : PySem.W.keepIn K (.ref fP) = true) (bP : Binds K dP ["_law_kind", "_law_it"] [])
    (mI : mg "isinstance" = none) (mT : mg "tuple" = none) (mS : mg "str" = none) (mLen : mg "len" = none) (mZ : mg "zip" = none) : ∀ n, FnOk P w K mg pB CX0 (n + 8) f fd ["_law_it", "_law_left"] (spMany n)
  | 0 => step_many F 0 ok_bot mG bG GF mF kF bF GP mP kP bP mI mT mS mLen mZ
  | n + 1 => step_many F (n + 1) (ok_many F mG bG GF mF kF bF GP mP kP bP mI mT mS mLen mZ n) mG bG GF mF kF bF GP mP kP bP mI mT mS mLen mZ
theorem isS_cn {d : PyData} {M : Int} (h : Cn (cnt 5 d) M) : decide (M ≤ 200) = isS d := by
  unfold isS
  obtain ⟨_, h1, h2⟩ := h
  cases hc : cnt 5 d with
  | none =>
    have := h2 hc
    exact decide_eq_false (by omega)
  | some c =>
    have := h1 c hc
    show decide (M ≤ 200) = decide (c ≤ 200)
    by_cases h : c ≤ 200
    · rw [decide_eq_true h, decide_eq_true (by omega)]
    · rw [decide_eq_false h, decide_eq_false (by omega)]
abbrev sLScript : Stmt := top 39
theorem scLScript : FnScope ["_law_it"] ["_law_it"] (defScope sLScript) := ⟨rfl, rfl, rfl, by decide +kernel, rfl, by decide +kernel, by decide +kernel⟩
theorem ok_lscript {f fM : Addr} {fd dM : FuncData} (F : Fun K "_law_is_script" "_law_is_script" sLScript f fd)
    (GM : FnOk P w K mg pB CX0 13 fM dM ["_law_it", "_law_left"] (spMany 5)) (mM : mg "_law_many" = some (.ref fM)) (kM : PySem.W.keepIn K (.ref fM) = true) (bM : Binds K dM ["_law_it", "_law_left"] []) : FnOk P w K mg pB CX0 14 f fd ["_law_it"] (spTest isS) := by
  refine F.ok scLScript (fun vs H Q E h => ?_) (fun cdv A outer s H vs Q E hr h => ?_)
  · obtain ⟨m, v, d, rfl, _⟩ := h
    rfl
  · obtain ⟨m, v, d, rfl, hR, hz, k⟩ := h
    refine ⟨_, pss_one (ps_ret (pe_cmpR op_le (pe_call GM hr rfl mM kM bM .nil pass0 (pa_cons (pv 0) (pa_cons pe_int pa_nil))) pe_int (nomark _))), ?_⟩
    refine ⟨_, rfl, m, v, d, rfl, hR, hz, fun M H1 s1 hC => ⟨_, _, rfl, rfl, ?_⟩⟩
    show Q (.bl (decide (M ≤ 200))) H1
    rw [isS_cn hC]
    exact k H1 s1
end
end My

set_option Elab.async false
set_option linter.all false
set_option maxRecDepth 100000
set_option maxHeartbeats 4000000
namespace My
open PySem L2
section
variable {P : Program} {w : World} {K : PySem.W.Frag} {mg : Str → Option Value}
/-- an entry of the table: its word, the tuple of its kinds' names -/
def EntAt (K : PySem.W.Frag) (e : DictEntry) (p : Str × List Kd) : Prop := (∃ t, e.key = .str p.1 t) ∧ ∃ a, e.val = .ref a ∧ ∀ H, SqT K H a (p.2.map fun k => V.str (kname k))
theorem isStr_key {x y : Str} {t : Tok} : (Value.str y t).isStr x = decide (y = x) := by
  rw [PySem.W.isStr_of]
  show (y == x) = decide (y = x)
  by_cases h : y = x
  · rw [decide_eq_true h, h, beq_self_eq_true]
  · rw [decide_eq_false h]
    exact beq_eq_false_iff_ne.mpr h
theorem find_ent {x : Str} : ∀ {es : List DictEntry} {L : List (Str × List Kd)}, Paired (EntAt K) es L →
    (match L.find? (fun p => decide (p.1 = x)) with
      | some p => ∃ e, es.find? (·.key.isStr x) = some e ∧ EntAt K e p
      | none => es.find? (·.key.isStr x) = none) ∧ es.any (·.refKey) = false
  | _, _, .nil => ⟨rfl, rfl⟩
  | e :: es, p :: L, .cons h r => by
    obtain ⟨⟨t, hk⟩, a, hv, hs⟩ := id h
    have ih := find_ent (x := x) r
    have e1 : e.key.isStr x = decide (p.1 = x) := by rw [hk, isStr_key]
    refine ⟨?_, ?_⟩
    · by_cases hx : p.1 = x
      · rw [List.find?_cons_of_pos (by simpa using hx)]
        exact ⟨e, List.find?_cons_of_pos (by rw [e1]; simpa using hx), h⟩
      · rw [List.find?_cons_of_neg (by simpa using hx), List.find?_cons_of_neg (by rw [e1]; simpa using hx)]
        exact ih.1
    · rw [List.any_cons, ih.2, Bool.or_false]
      show e.refKey = false
      unfold DictEntry.refKey
      rw [hk]
theorem deeds_mk {dA : Addr} {es : Array DictEntry} {n : Nat} (m : mg "DEEDS" = some (.ref dA)) (at_ : K.lookup dA = some ⟨.type "dict", none, .dict es n, #[]⟩) (lit : PySem.W.KeysLit w.params es.toList) (low : (dA == sysModules) = false) (pr : Paired (EntAt K) es.toList formL) : Deeds K w mg dA es n := by
  refine ⟨m, ⟨at_, lit, low⟩, fun x ks h => ?_, fun x h => ?_⟩
  · have f := (find_ent (x := x) pr).1
    unfold formOf at h
    obtain ⟨p, hp, rfl⟩ := Option.map_eq_some_iff.mp h
    rw [hp] at f
    obtain ⟨e, he, ⟨_, a, hv, hs⟩⟩ := f
    refine ⟨a, ?_, hs⟩
    unfold PySem.W.nsIn
    rw [at_]
    show (match es.toList.find? (·.key.isStr x) with | some e => some (some e.val) | none => if es.toList.any (·.refKey) then none else some none) = _
    rw [he, ← hv]
  · have f := find_ent (x := x) pr
    unfold formOf at h
    rw [Option.map_eq_none_iff.mp h] at f
    unfold PySem.W.nsIn
    rw [at_]
    show (match es.toList.find? (·.key.isStr x) with | some e => some (some e.val) | none => if es.toList.any (·.refKey) then none else some none) = _
    rw [f.1, f.2]
    rfl
end
end My

set_option Elab.async false
set_option linter.all false
set_option maxRecDepth 100000
set_option maxHeartbeats 4000000
namespace My
open PySem L2
/-! ### the pen and a plan, drawn from side by side -/
def planK (a : Int) : List (Key × V) := [(Sum.inr "left", .int a)]
structure Dg (H H' : Hp) (d l : Addr) (ms : List Int) (n n' L' : Int) (q : Addr) (a a' b : Int) : Prop where
  kp : ∀ c o, H c = some o → c ≠ d → c ≠ q → H' c = some o
  pn : Pen H' d l ms n' L'
  pl : H' q = some (.dK (planK a'))
  lo : n ≤ n'
  hi : n' ≤ n + b
  l0 : 0 ≤ a'
  l1 : a' ≤ a
section
variable {H H1 H2 : Hp} {d l q : Addr} {ms : List Int} {n n1 n2 L L1 L2 a a1 a2 b c : Int}
theorem Dg.refl (p : Pen H d l ms n L) (hq : H q = some (.dK (planK a))) (h0 : 0 ≤ a) : Dg H H d l ms n n L q a a 0 := ⟨fun _ _ e _ _ => e, p, hq, Int.le_refl _, by omega, h0, Int.le_refl _⟩
theorem Dg.trans (x : Dg H H1 d l ms n n1 L1 q a a1 b) (y : Dg H1 H2 d l ms n1 n2 L2 q a1 a2 c) : Dg H H2 d l ms n n2 L2 q a a2 (b + c) :=
  ⟨fun e o h h1 h2 => y.kp e o (x.kp e o h h1 h2) h1 h2, y.pn, y.pl, Int.le_trans x.lo y.lo, by have := x.hi; have := y.hi; omega, y.l0, Int.le_trans y.l1 x.l1⟩
theorem Dg.wk (x : Dg H H1 d l ms n n1 L1 q a a1 b) (h : b ≤ c) : Dg H H1 d l ms n n1 L1 q a a1 c := ⟨x.kp, x.pn, x.pl, x.lo, by have := x.hi; omega, x.l0, x.l1⟩
theorem Dg.same (x : Dg H H1 d l ms n n1 L1 q a a1 b) (s : Same H1 H2) : Dg H H2 d l ms n n1 L1 q a a1 b := ⟨fun e o h h1 h2 => s _ _ (x.kp e o h h1 h2), x.pn.same s, s _ _ x.pl, x.lo, x.hi, x.l0, x.l1⟩
/-- a draw alone leaves the plan -/
theorem Dg.of (x : Dr H H1 d l ms n n1 L1 b) (p : Pen H d l ms n L) (hq : H q = some (.dK (planK a))) (hne : q ≠ d) (h0 : 0 ≤ a) : Dg H H1 d l ms n n1 L1 q a a b :=
  ⟨fun e o h h1 _ => x.kp e o h h1, x.pn, x.kp _ _ hq hne, x.lo, x.hi, h0, Int.le_refl _⟩
theorem planK_ne (a : Int) : planK a ≠ [] := by intro z; cases z
theorem Dg.rep (x : Dg H H1 d l ms n n1 L1 q a a1 b) (p : Pen H d l ms n L) (hq : H q = some (.dK (planK a))) (hne : q ≠ d) {k : Nat} {v : V} {t : PyData} (r : Rep H k v t) : Rep H1 k v t := by
  have k1 : Kp d H (fun e => if e = q then H q else H1 e) := fun e o h h1 => by
    by_cases eq : e = q
    · show (if e = q then H q else H1 e) = some o
      rw [if_pos eq, ← eq]; exact h
    · show (if e = q then H q else H1 e) = some o
      rw [if_neg eq]; exact x.kp e o h h1 eq
  have r1 := r.keep p.dc (pen_ne _ _ _) k1
  have hq1 : (fun e => if e = q then H q else H1 e) q = some (.dK (planK a)) := by
    show (if q = q then H q else H1 q) = _
    rw [if_pos rfl]; exact hq
  exact r1.keep hq1 (planK_ne a) fun e o h h1 => by
    have h : (if e = q then H q else H1 e) = some o := h
    rw [if_neg h1] at h; exact h
/-- the plan's cell lowered -/
theorem Dg.take (p : Pen H d l ms n L) (hq : H q = some (.dK (planK a))) (hne : q ≠ d) (hl : l ≠ q) (h0 : 0 < a) : Dg H (upd H q (.dK (planK (a - 1)))) d l ms n n L q a (a - 1) 0 :=
  ⟨fun e o h _ h2 => by rw [upd_ne h2]; exact h, ⟨by rw [upd_ne (Ne.symm hne)]; exact p.dc, by rw [upd_ne hl]; exact p.ls, p.n0, p.l0⟩, upd_same, Int.le_refl _, by omega, by omega, by omega⟩
end
end My

set_option Elab.async false
set_option linter.all false
set_option maxRecDepth 100000
set_option maxHeartbeats 4000000
namespace My
open PySem L2
section
variable {P : Program} {w : World} {K : PySem.W.Frag} {mg : Str → Option Value} {pB : Heap}
/-! ### a part that is drawn -/
def szK : Kd → Nat
  | .w => 9 | .v => 576 | .n => 73 | _ => 1
/-- a part of a deed of a script drawn within j + 1 -/
def spPart (j : Nat) : Sp := fun vs H Q _ => ∃ (d l q : Addr) (ms : List Int) (n L a : Int) (kd : Kd), vs = [.ref d, .str ⟨#[ksign kd]⟩, .ref q, .int ((j + 1 : Nat) : Int)] ∧ Pen H d l ms n L ∧ H q = some (.dK (planK a)) ∧ 0 ≤ a ∧ n + 60000 * a + 40000 ≤ 2 ^ 36 ∧ (j = 0 → kd ≠ .S) ∧
  ∀ (v : V) (x : PyData) (n' L' a' : Int) (H' : Hp) (c : Nat), Rep H' (2 * j + 2) v x → partB (cnt j) kd x = some c → (c : Int) = a - a' → szD x ≤ szK kd + 600 * c → Dg H H' d l ms n n' L' q a a' (60000 * c + 13002) → Q v H'
/-- a script drawn within j + 1 -/
def spScr (j : Nat) : Sp := fun vs H Q _ => ∃ (d l q : Addr) (ms : List Int) (n L a : Int), vs = [.ref d, .ref q, .int ((j + 1 : Nat) : Int)] ∧ Pen H d l ms n L ∧ H q = some (.dK (planK a)) ∧ 0 ≤ a ∧ n + 60000 * a + 20000 ≤ 2 ^ 36 ∧
  ∀ (v : V) (x : PyData) (n' L' a' : Int) (H' : Hp) (c : Nat), Rep H' (2 * j + 4) v x → cnt (j + 1) x = some c → (c : Int) = a - a' → szD x ≤ 1 + 600 * c → Dg H H' d l ms n n' L' q a a' (60000 * c + 1) → Q v H'
def spPrevS : Nat → Sp
  | 0 => spBot
  | j + 1 => spScr j
theorem pen_plan {H : Hp} {d l q : Addr} {ms : List Int} {n L a : Int} (p : Pen H d l ms n L) (hq : H q = some (.dK (planK a))) : q ≠ d := ne_of hq p.dc (by intro z; have := congrArg List.length (HO.dK.inj z); simp [planK, pen] at this)
abbrev sPart : Stmt := top 32
theorem scPart : FnScope ["_law_held", "_law_kind", "_law_plan", "_law_within", "_law_number", "_law_k"] ["_law_held", "_law_kind", "_law_plan", "_law_within"] (defScope sPart) := ⟨rfl, rfl, rfl, by decide +kernel, rfl, by decide +kernel, by decide +kernel⟩
theorem cnt_tup {j c : Nat} {x : PyData} (h : cnt j x = some c) : isNon x = false := by
  cases j with
  | zero => cases h
  | succ j => cases x <;> first | rfl | cases h
theorem partB_scr {j c : Nat} {kd : Kd} {x : PyData} (hk : isScr kd = true) (h : cnt j x = some c) : partB (cnt j) kd x = some c := by
  unfold partB
  rw [if_pos hk, if_neg (fun z => by rw [cnt_tup h] at z; exact absurd z.2 (by decide))]
  exact h
theorem partB_leaf {j : Nat} {kd : Kd} {x : PyData} (hk : isScr kd = false) (h : partOk kd x = true) : partB (cnt j) kd x = some 0 := by
  unfold partB
  rw [if_neg (by rw [hk]; decide), if_pos h]
theorem btw_i {lo hi i : Int} (h : lo ≤ i ∧ i ≤ hi) : btw lo hi (.int i) = true := by
  rw [btw, decide_eq_true h.1, decide_eq_true h.2]; rfl
theorem isW_mono : ∀ {n m : Nat} {t : PyData}, n ≤ m → isW n t = true → isW m t = true
  | 0, m, t, _, h => by
    rcases @notTup t with ⟨ds, rfl⟩ | hn
    · cases h
    · rw [isW_leaf hn] at h ⊢; exact h
  | n + 1, 0, _, hm, _ => absurd hm (by omega)
  | n + 1, m + 1, t, hm, h => by
    rcases @notTup t with ⟨ds, rfl⟩ | hn
    · rw [isW, Bool.and_eq_true, List.all_eq_true] at h ⊢
      exact ⟨h.1, fun x hx => isW_mono (by omega) (h.2 x hx)⟩
    · rw [isW_leaf hn] at h ⊢; exact h
theorem paired_strs (H : Hp) (k : Nat) : ∀ ys : List Str, Paired (Rep H k) (ys.map V.str) (ys.map PyData.str)
  | [] => .nil
  | y :: ys => .cons (rep_s y) (paired_strs H k ys)
theorem szL_strs : ∀ ys : List Str, (∀ y ∈ ys, y.length ≤ 8) → szL (ys.map PyData.str) ≤ 9 * ys.length
  | [], _ => by simp [szL]
  | y :: ys, h => by
    have h1 := szL_strs ys fun z hz => h z (List.mem_cons_of_mem _ hz)
    have h2 := h y (List.mem_cons_self ..)
    rw [List.map_cons, szL, szD, List.length_cons]; omega
theorem step_part {f fS fD fV fW : Addr} {fd dS dD dV dW : FuncData} (F : Fun K "_law_part" "_law_part" sPart f fd) (j : Nat)
    (GS : FnOk P w K mg pB CX0 (2 * j + 6) fS dS ["_law_held", "_law_plan", "_law_within"] (spPrevS j)) (mS : mg "_law_script" = some (.ref fS)) (kS : PySem.W.keepIn K (.ref fS) = true) (bS : Binds K dS ["_law_held", "_law_plan", "_law_within"] [])
    (GD : FnOk P w K mg pB CX0 1 fD dD ["_law_held", "_law_many_here"] spDraw) (mD : mg "_law_draw" = some (.ref fD)) (kD : PySem.W.keepIn K (.ref fD) = true) (bD : Binds K dD ["_law_held", "_law_many_here"] [])
    (GV : FnOk P w K mg pB CX0 3 fV dV ["_law_held"] spWord) (mV : mg "_law_word" = some (.ref fV)) (kV : PySem.W.keepIn K (.ref fV) = true) (bV : Binds K dV ["_law_held"] [])
    (GW : FnOk P w K mg pB CX0 6 fW dW ["_law_held", "_law_within"] (spWor 2)) (mW : mg "_law_worth" = some (.ref fW)) (kW : PySem.W.keepIn K (.ref fW) = true) (bW' : Binds K dW ["_law_held", "_law_within"] [])
    (mInt : mg "int" = none) (mT : mg "tuple" = none) (mR : mg "range" = none) (mMax : mg "max" = none) : FnOk P w K mg pB CX0 (2 * j + 7) f fd ["_law_held", "_law_kind", "_law_plan", "_law_within"] (spPart j) := by
  refine F.ok scPart (fun vs H Q E h => ?_) (fun cdv A outer s H vs Q E hr h => ?_)
  · obtain ⟨d, l, q, ms, n, L, a, kd, rfl, _⟩ := h
    rfl
  · obtain ⟨d, l, q, ms, n, L, a, kd, rfl, p, hq, ha0, hn, hS, kont⟩ := h
    have nd := scPart.nd
    have hr1 : Room 1 _ := hr.mono (by omega)
    have hr3 : Room 3 _ := hr.mono (by omega)
    have hr6 : Room 6 _ := hr.mono (by omega)
    have hne := pen_plan p hq
    refine ⟨_, pss_cons (ps_set (i := 4) nd rfl (Or.inl rfl) (pe_ix ix_list (pe_lst (pa_cons pe_int (pa_cons pe_int (pa_cons (pe_call GD hr1 rfl mD kD bD .nil pass0 (pa_cons (pv 0) (pa_cons pe_int pa_nil))) (pa_cons pe_int pa_nil)))))
          (pe_call GD hr1 rfl mD kD bD .nil pass0 (pa_cons (pv 0) (pa_cons pe_int pa_nil))) (fun _ _ => rfl)))
      (pss_cons (ps_if (pt_cmpR op_eq (pv 1) pe_str (nomark _)) (pss_one (ps_ret (pe_ix ix_list (pe_lst (pa_cons pe_non (pa_cons (pv 4) pa_nil))) (pe_call GD hr1 rfl mD kD bD .nil pass0 (pa_cons (pv 0) (pa_cons pe_int pa_nil))) (fun _ _ => rfl)))) pss_nil)
      (pss_cons (ps_if (pt_cmpR op_in_sign (pv 1) pe_str rfl) (pss_one (ps_ret (pe_callB (call_max2 rfl) (by rfl) mMax (by decide +kernel) (pa_cons (pv 4) (pa_cons (pe_callTy call_int1 (by rfl) mInt (by decide +kernel) (pa_cons (pe_cmpR op_eq (pv 1) pe_str (nomark _)) pa_nil)) pa_nil))))) pss_nil)
      (pss_cons (ps_if (pt_cmpR op_in_sign (pv 1) pe_str rfl) (pss_one (ps_ret (pe_ifExp (pt_cmpR op_eq (pv 1) pe_str (nomark _)) (pe_call GV hr3 rfl mV kV bV .nil pass0 (pa_cons (pv 0) pa_nil)) (pe_call GD hr1 rfl mD kD bD .nil pass0 (pa_cons (pv 0) (pa_cons pe_int pa_nil)))))) pss_nil)
      (pss_cons (ps_if (pt_cmpR op_in_sign (pv 1) pe_str rfl) (pss_one (ps_ret (pe_ifExp (pt_cmpR op_eq (pv 1) pe_str (nomark _)) (pe_call GW hr6 rfl mW kW bW' .nil pass0 (pa_cons (pv 0) (pa_cons pe_int pa_nil)))
          (pe_tupleOf (by rfl) mT (pe_lc (own := [("_law_k", 5)]) (g := gName 5) (tt := tYes) (te := tCall spWord [] E0 (tCons (tVar 0) tNil)) rfl nd
            (pi_range1 rfl mR (pa_cons (pe_call GD hr1 rfl mD kD bD .nil pass0 (pa_cons (pv 0) (pa_cons pe_int pa_nil))) pa_nil))
            (blkOk_by (N := ["_law_held", "_law_kind", "_law_plan", "_law_within", "_law_number", "_law_k"]) (sc := defScope sPart) (by decide +kernel)) (fun _ _ _ _ _ => pg_name (i := 5) nd rfl (Or.inl rfl) (Or.inr rfl)) (fun _ _ _ _ _ => pts_nil)
            (fun _ _ _ _ _ => pe_call GV hr3 rfl mV kV bV .nil pass0 (pa_cons (pv 0) pa_nil))))))) pss_nil)
      (pss_cons (ps_if (PW.pt (pw_and (pt_cmpR op_eq (pv 1) pe_str (nomark _)) (pw_and1 (PW.pt (pw_or (pt_cmpR op_lt (pv 3) pe_int (nomark _)) (pw_or1 (pt_cmpR op_eq (pe_call GD hr1 rfl mD kD bD .nil pass0 (pa_cons (pv 0) (pa_cons pe_int pa_nil))) pe_int (nomark _)))))))) (pss_one (ps_ret pe_non)) pss_nil)
      (pss_one (ps_ret (pe_call GS hr rfl mS kS bS .nil pass0 (pa_cons (pv 0) (pa_cons (pv 2) (pa_cons (pe_op op_sub (pv 3) pe_int) pa_nil))))))))))), ?_⟩
    refine asg_n (rd_dr (m := 1001) rfl (fun _ h => h) p (by omega) (by decide) (by decide) fun r1 n1 L1 H1 a0 a1 x1 => ⟨by show 4 ≤ sizeLine; decide, fun u hu => ?_⟩)
    have s2 : Same H1 (upd H1 u (.lst [.int 0, .int 1, .int r1, .int 1000])) := Same.new (Same.refl _) hu
    have h1 := x1.hi
    refine rd_dr (m := 4) rfl (fun _ h => h) (x1.pn.same s2) (by omega) (by decide) (by decide) fun r2 n2 L2 H2 b0 b1 x2 => ?_
    have cu : H2 u = some (.lst [.int 0, .int 1, .int r1, .int 1000]) := x2.kp _ _ upd_same (ne_of upd_same (x1.pn.same s2).dc (by intro z; cases z))
    obtain ⟨v, hv, hat, _⟩ := atI_of (xs := [V.int 0, V.int 1, V.int r1, V.int 1000]) b0 b1
    have hx : ∃ i : Int, v = .int i ∧ 0 ≤ i ∧ i ≤ 1000 := by
      simp only [List.mem_cons, List.mem_nil_iff, or_false] at hv
      rcases hv with rfl | rfl | rfl | rfl
      · exact ⟨_, rfl, by decide, by decide⟩
      · exact ⟨_, rfl, by decide, by decide⟩
      · exact ⟨_, rfl, by omega, by omega⟩
      · exact ⟨_, rfl, by decide, by decide⟩
    refine ⟨u, _, _, v, rfl, rfl, SqL.of cu, hat, ?_⟩
    obtain ⟨num, rfl, num0, num1⟩ := hx
    have x : Dr H H2 d l ms n n2 L2 2 := ((x1.same s2).trans x2).wk (by decide)
    have h2 := x.hi
    have g2 : Dg H H2 d l ms n n2 L2 q a a 2 := Dg.of x p hq hne ha0
    clear hat cu hv x1 x2 s2 a0 a1 b0 b1 h1 hu
    have leafK : ∀ (v : V) (t : PyData) (n' L' : Int) (H' : Hp), isScr kd = false → Rep H' (2 * j + 2) v t → partOk kd t = true → szD t ≤ szK kd → Dr H2 H' d l ms n2 n' L' 13000 → Q v H' := fun v t n' L' H' hk hr ho hz x => kont v t n' L' a H' 0 hr (partB_leaf hk ho) (by omega) (by omega) ((g2.trans (Dg.of x g2.pn g2.pl hne ha0)).wk (by omega))
    have scrK : ∀ (n3 L3 : Int) (H3 : Hp), Dr H2 H3 d l ms n2 n3 L3 1 → isScr kd = true → 0 < j → tCall (spPrevS j) [] E0 (tCons (tVar 0) (tCons (tVar 2) (tCons (tOp (rI0 fun i j => V.int (i - j)) (tVar 3) (tC (V.int 1))) tNil))) [some (.ref d), some (.str ⟨#[ksign kd]⟩), some (.ref q), some (.int ((j + 1 : Nat) : Int)), some (.int num), none] H3 Q := by
      intro n3 L3 H3 x3 hk hj
      have h3 := x3.hi
      have g3 := g2.trans (Dg.of x3 g2.pn g2.pl hne ha0)
      obtain ⟨i, rfl⟩ : ∃ i, j = i + 1 := ⟨j - 1, by omega⟩
      refine call_of ⟨_, rfl, _, rfl, _, rfl, _, _, rfl, rfl, d, l, q, ms, n3, L3, a, ?_, g3.pn, g3.pl, ha0, by omega, fun v t n4 L4 a4 H4 c hr4 hc ec hz x4 => ?_⟩
      · show [V.ref d, V.ref q, V.int (((i + 1 + 1 : Nat) : Int) - 1)] = [V.ref d, V.ref q, V.int ((i + 1 : Nat) : Int)]
        rw [show (((i + 1 + 1 : Nat) : Int) - 1) = ((i + 1 : Nat) : Int) by omega]
      · exact kont v t n4 L4 a4 H4 c (hr4.mono (by omega)) (partB_scr hk hc) ec (Nat.le_trans hz (Nat.add_le_add_right (by cases kd <;> first | decide | cases hk) _)) ((g3.trans x4).wk (by omega))
    cases kd with
    | w =>
      refine ⟨_, rfl, rfl, _, rfl, iteN (by decide +kernel) ?_⟩
      refine ⟨_, rfl, 119, "ke", rfl, rfl, _, rfl, iteN (by decide +kernel) ?_⟩
      refine ⟨_, rfl, 119, "wr", rfl, rfl, _, rfl, iteY (by decide +kernel) ?_⟩
      refine ⟨_, rfl, rfl, _, rfl, iteY (by decide +kernel) ?_⟩
      exact ⟨_, rfl, d, l, ms, n2, L2, rfl, x.pn, by omega, fun xw n3 L3 H3 hx hw x3 => leafK (.str xw) (.str xw) n3 L3 H3 rfl (rep_s xw) hw (by rw [szD]; show 1 + xw.length ≤ 9; omega) (x3.wk (by decide))⟩
    | k =>
      refine ⟨_, rfl, rfl, _, rfl, iteN (by decide +kernel) ?_⟩
      refine ⟨_, rfl, 107, "ke", rfl, rfl, _, rfl, iteY (by decide +kernel) ?_⟩
      refine ⟨_, rfl, _, rfl, rfl, .inr ⟨_, rfl, _, _, rfl, ?_⟩⟩
      refine leafK _ (.int _) n2 L2 H2 rfl (rep_i _) (btw_i ?_) (Nat.le_refl 1) ((Dr.refl x.pn).wk (by decide))
      split <;> split <;> omega
    | e =>
      refine ⟨_, rfl, rfl, _, rfl, iteN (by decide +kernel) ?_⟩
      refine ⟨_, rfl, 101, "ke", rfl, rfl, _, rfl, iteY (by decide +kernel) ?_⟩
      refine ⟨_, rfl, _, rfl, rfl, .inr ⟨_, rfl, _, _, rfl, ?_⟩⟩
      refine leafK _ (.int _) n2 L2 H2 rfl (rep_i _) (btw_i ?_) (Nat.le_refl 1) ((Dr.refl x.pn).wk (by decide))
      rw [if_pos (show decide (V.str ⟨#[ksign Kd.e]⟩ = V.str "e") = true by decide +kernel)]
      split <;> omega
    | r =>
      refine ⟨_, rfl, rfl, _, rfl, iteN (by decide +kernel) ?_⟩
      refine ⟨_, rfl, 114, "ke", rfl, rfl, _, rfl, iteN (by decide +kernel) ?_⟩
      refine ⟨_, rfl, 114, "wr", rfl, rfl, _, rfl, iteY (by decide +kernel) ?_⟩
      refine ⟨_, rfl, rfl, _, rfl, iteN (by decide +kernel) ?_⟩
      exact rd_dr (m := 6) rfl (fun _ h => h) x.pn (by omega) (by decide) (by decide) fun r n3 L3 H3 c0 c1 x3 => leafK (.int r) (.int r) n3 L3 H3 rfl (rep_i _) (btw_i ⟨by omega, by omega⟩) (Nat.le_refl 1) (x3.wk (by decide))
    | i =>
      refine ⟨_, rfl, rfl, _, rfl, iteY (by decide +kernel) ?_⟩
      refine ⟨_, rfl, by show 2 ≤ sizeLine; decide, fun u hu => ?_⟩
      have s3 : Same H2 (upd H2 u (.lst [.non, .int num])) := Same.new (Same.refl _) hu
      refine rd_dr (m := 2) rfl (fun _ h => h) (x.pn.same s3) (by omega) (by decide) (by decide) fun r n3 L3 H3 c0 c1 x3 => ?_
      have cu : H3 u = some (.lst [.non, .int num]) := x3.kp _ _ upd_same (ne_of upd_same (x.pn.same s3).dc (by intro z; cases z))
      obtain ⟨v, hv, hat, _⟩ := atI_of (xs := [V.non, V.int num]) c0 c1
      refine ⟨u, _, _, v, rfl, rfl, SqL.of cu, hat, ?_⟩
      have x4 : Dr H2 H3 d l ms n2 n3 L3 13000 := (((Dr.refl x.pn).same s3).trans x3).wk (by decide)
      rcases List.mem_cons.mp hv with rfl | hv
      · exact leafK .non .none n3 L3 H3 rfl rep_n rfl (Nat.le_refl 1) x4
      · rw [List.mem_singleton.mp hv]
        refine leafK (.int num) (.int num) n3 L3 H3 rfl (rep_i _) ?_ (Nat.le_refl 1) x4
        show (isNon (.int num) || btw 0 1000 (.int num)) = true
        rw [show btw 0 1000 (.int num) = true from btw_i ⟨num0, num1⟩, Bool.or_true]
    | v =>
      refine ⟨_, rfl, rfl, _, rfl, iteN (by decide +kernel) ?_⟩
      refine ⟨_, rfl, 118, "ke", rfl, rfl, _, rfl, iteN (by decide +kernel) ?_⟩
      refine ⟨_, rfl, 118, "wr", rfl, rfl, _, rfl, iteN (by decide +kernel) ?_⟩
      refine ⟨_, rfl, 118, "vn", rfl, rfl, _, rfl, iteY (by decide +kernel) ?_⟩
      refine ⟨_, rfl, rfl, _, rfl, iteY (by decide +kernel) ?_⟩
      have hb : bW 2 = 12630 := by decide
      refine ⟨_, rfl, d, l, ms, n2, L2, rfl, x.pn, by rw [hb]; omega, fun v t n3 L3 H3 hr3 hz hw x3 => leafK v t n3 L3 H3 rfl (hr3.mono (by omega)) (isW_mono (by decide) hw) (Nat.le_trans hz (by decide)) (x3.wk (by rw [hb]; decide))⟩
    | n =>
      refine ⟨_, rfl, rfl, _, rfl, iteN (by decide +kernel) ?_⟩
      refine ⟨_, rfl, 110, "ke", rfl, rfl, _, rfl, iteN (by decide +kernel) ?_⟩
      refine ⟨_, rfl, 110, "wr", rfl, rfl, _, rfl, iteN (by decide +kernel) ?_⟩
      refine ⟨_, rfl, 110, "vn", rfl, rfl, _, rfl, iteY (by decide +kernel) ?_⟩
      refine ⟨_, rfl, rfl, _, rfl, iteN (by decide +kernel) ?_⟩
      refine rd_dr (m := 9) rfl (fun _ h => h) x.pn (by omega) (by decide) (by decide) fun r n3 L3 H3 c0 c1 x3 => ?_
      have h3 := x3.hi
      refine ⟨_, rfl, by omega, by omega, fun D hD => ?_⟩
      refine lc_range (lo := 0) (n := r.toNat) (fun i H' => ∃ (n' L' : Int) (ys : List Str), Dr H3 H' d l ms n3 n' L' ((i : Int) * 20) ∧ ys.length = i ∧ H' D = some (.lst (ys.map V.str)) ∧ ∀ y ∈ ys, y.length ≤ 8 ∧ isWd y = true)
        ⟨n3, L3, [], ((Dr.refl x3.pn).same (Same.new (Same.refl _) hD)).wk (by simp), rfl, upd_same, fun t h => nomatch h⟩ (fun i H' hi p' => ?_) (fun H' p' => ?_)
      · obtain ⟨n', L', ys, y1, hl, hD', hys⟩ := p'
        have h4 := y1.hi
        refine ⟨rfl, yes_of (iteT (call_of ⟨_, rfl, d, l, ms, n', L', rfl, y1.pn, by omega, fun xw n5 L5 H5 hx5 hw5 x5 => ?_⟩))⟩
        have hD5 := x5.kp _ _ hD' (ne_of hD' y1.pn.dc (by intro z; cases z))
        refine ⟨ys.map V.str, hD5, by rw [List.length_map]; exact Nat.lt_of_le_of_lt (show ys.length ≤ 20 by omega) (by decide), n5, L5, ys ++ [xw], ?_, by rw [List.length_append, hl]; rfl, by rw [List.map_append]; exact upd_same, fun t ht => (List.mem_append.mp ht).elim (hys t) fun z => by rw [List.mem_singleton.mp z]; exact ⟨hx5, hw5⟩⟩
        exact ((y1.trans x5).upd x3.pn hD).wk (by omega)
      · obtain ⟨n', L', ys, y1, hl, hD', hys⟩ := p'
        have h4 := y1.hi
        refine .inl ⟨D, _, rfl, SqL.of hD', fun tq htq => ?_⟩
        have s7 : Same H' (upd H' tq (.tup (ys.map V.str))) := Same.new (Same.refl _) htq
        refine leafK (.ref tq) (.tuple (ys.map PyData.str)) n' L' _ rfl (rep_t (k := 2 * j + 1) upd_same (paired_strs _ _ ys)) ?_ ?_ (((x3.trans y1).same s7).wk (by omega))
        · show (decide ((ys.map PyData.str).length ≤ 8) && (ys.map PyData.str).all wdD) = true
          rw [List.length_map, decide_eq_true (by omega), Bool.true_and, List.all_eq_true]
          intro t ht
          obtain ⟨y, hy, rfl⟩ := List.mem_map.mp ht
          exact (hys y hy).2
        · have hz := szL_strs ys (fun y hy => (hys y hy).1)
          rw [szD]
          show 1 + szL (ys.map PyData.str) ≤ 73
          omega
    | S =>
      refine ⟨_, rfl, rfl, _, rfl, iteN (by decide +kernel) ?_⟩
      refine ⟨_, rfl, 83, "ke", rfl, rfl, _, rfl, iteN (by decide +kernel) ?_⟩
      refine ⟨_, rfl, 83, "wr", rfl, rfl, _, rfl, iteN (by decide +kernel) ?_⟩
      refine ⟨_, rfl, 83, "vn", rfl, rfl, _, rfl, iteN (by decide +kernel) ?_⟩
      refine ⟨_, rfl, rfl, _, rfl, iteN (by decide +kernel) (iteF ?_)⟩
      exact scrK n2 L2 H2 ((Dr.refl x.pn).wk (by decide)) rfl (Nat.pos_of_ne_zero fun z => hS z rfl)
    | s =>
      refine ⟨_, rfl, rfl, _, rfl, iteN (by decide +kernel) ?_⟩
      refine ⟨_, rfl, 115, "ke", rfl, rfl, _, rfl, iteN (by decide +kernel) ?_⟩
      refine ⟨_, rfl, 115, "wr", rfl, rfl, _, rfl, iteN (by decide +kernel) ?_⟩
      refine ⟨_, rfl, 115, "vn", rfl, rfl, _, rfl, iteN (by decide +kernel) ?_⟩
      refine ⟨_, rfl, rfl, _, rfl, iteY (by decide +kernel) ?_⟩
      have nonK : ∀ (n' L' : Int) (H' : Hp), Dr H2 H' d l ms n2 n' L' 13000 → Q .non H' := fun n' L' H' x' => kont .non .none n' L' a H' 0 rep_n rfl (by omega) (Nat.le_refl 1) ((g2.trans (Dg.of x' g2.pn g2.pl hne ha0)).wk (by omega))
      by_cases hj : j = 0
      · subst hj
        exact ⟨_, rfl, _, _, rfl, rfl, _, rfl, iteY (by decide) (iteT (nonK n2 L2 H2 ((Dr.refl x.pn).wk (by decide))))⟩
      · refine ⟨_, rfl, _, _, rfl, rfl, _, rfl, iteN (by omega) ?_⟩
        refine rd_dr (m := 3) rfl (fun _ h => h) x.pn (by omega) (by decide) (by decide) fun r n3 L3 H3 c0 c1 x3 => ⟨rfl, _, rfl, ite2 (fun c => ?_) (fun c => ?_)⟩
        · exact nonK n3 L3 H3 (x3.wk (by decide))
        · exact scrK n3 L3 H3 x3 rfl (Nat.pos_of_ne_zero hj)
end
end My

set_option Elab.async false
set_option linter.all false
set_option maxRecDepth 100000
set_option maxHeartbeats 4000000
namespace My
open PySem L2
section
variable {P : Program} {w : World} {K : PySem.W.Frag} {mg : Str → Option Value} {pB : Heap}
theorem Dg.upd {H H' : Hp} {d l q D : Addr} {ms : List Int} {n n' L L' a a' b : Int} {o : HO} (x : Dg H H' d l ms n n' L' q a a' b) (p : Pen H d l ms n L) (hq : H q = some (.dK (planK a))) (hD : H D = none) : Dg H (L2.upd H' D o) d l ms n n' L' q a a' b :=
  ⟨fun c u e h1 h2 => by rw [upd_ne (ne_of_none e hD)]; exact x.kp c u e h1 h2, ⟨by rw [upd_ne (ne_of_none p.dc hD)]; exact x.pn.dc, by rw [upd_ne (ne_of_none p.ls hD)]; exact x.pn.ls, x.pn.n0, x.pn.l0⟩, by rw [upd_ne (ne_of_none hq hD)]; exact x.pl, x.lo, x.hi, x.l0, x.l1⟩
/-! ### the words of forms -/
def wOk (j : Nat) (p : Str × List Kd) : Bool := decide (0 < j) || !decide (Kd.S ∈ p.2)
def wordsL (j : Nat) : List V := (formL.filter (wOk j)).map fun p => V.str p.1
theorem form_of : ∀ p ∈ formL, formOf p.1 = some p.2 := by decide +kernel
theorem form_sz : ∀ p ∈ formL, (p.2.map szK).sum ≤ 585 ∧ p.1.length ≤ 8 ∧ p.2.length ≤ 4 := by decide +kernel
theorem words_len : ∀ j, 0 < (wordsL j).length ∧ (wordsL j).length ≤ 30
  | 0 => by decide +kernel
  | j + 1 => by
    have e : wordsL (j + 1) = wordsL 1 := by
      unfold wordsL
      refine congrArg _ (congrArg (fun g => List.filter g formL) (funext fun p => ?_))
      unfold wOk
      rw [decide_eq_true (show 0 < j + 1 by omega)]
      rfl
    rw [e]; decide +kernel
theorem sign_S (ks : List Kd) : decide (83 ∈ (ksignS ks).cps.toList) = decide (Kd.S ∈ ks) := by
  have e : (83 ∈ (ksignS ks).cps.toList) ↔ Kd.S ∈ ks := by
    show 83 ∈ (ks.map ksign).toArray.toList ↔ _
    rw [List.toList_toArray, List.mem_map]
    refine ⟨fun ⟨k, hk, e⟩ => ?_, fun h => ⟨_, h, rfl⟩⟩
    cases k <;> first | exact hk | exact absurd e (by decide)
  exact decide_eq_decide.mpr e
theorem sumO_s1 {l : List (Option Nat)} {a b : Nat} (h : sumO l = some a) : sumO (l ++ [some b]) = some (a + b) := by
  rw [sumO_app, h]; rfl
theorem plan_get {H : Hp} {q : Addr} {a : Int} (h : H q = some (.dK (planK a))) : DGet H q (.str "left") (some (.int a)) := by
  have h := DGet.k (k := (Sum.inr "left" : Key)) h
  rw [show valV (planK a) (Sum.inr "left") = some (.int a) from valV_pos rfl] at h
  exact h
theorem plan_put {H : Hp} {q : Addr} {a b : Int} (h : H q = some (.dK (planK a))) : DPut H q (.str "left") (.int b) (L2.upd H q (.dK (planK b))) := by
  have h := DPut.k (k := (Sum.inr "left" : Key)) (v := .int b) h (by show 1 < sizeLine; decide)
  rw [show putK (planK a) (Sum.inr "left") (.int b) = planK b by simp [putK, planK]] at h
  exact h
theorem mem_words {j : Nat} {x : V} (h : x ∈ wordsL j) : ∃ p ∈ formL, x = .str p.1 ∧ (j = 0 → Kd.S ∉ p.2) := by
  obtain ⟨p, hp, rfl⟩ := List.mem_map.mp h
  obtain ⟨h1, h2⟩ := List.mem_filter.mp hp
  refine ⟨p, h1, rfl, fun e => ?_⟩
  subst e
  intro z
  unfold wOk at h2
  rw [decide_eq_true z] at h2
  exact absurd h2 (by decide)
theorem form_get {H : Hp} {q : Addr} {p : Str × List Kd} (h : H q = some (.dK formK)) (hp : p ∈ formL) : DGet H q (.str p.1) (some (.str (ksignS p.2))) := by
  have h := DGet.k (k := (Sum.inr p.1 : Key)) h
  rw [val_form, form_of p hp] at h
  exact h
theorem form_getF {H : Hp} {q : Addr} {o : Obj} {p : Str × List Kd} (h : H q = some (.frz o (.dK formK))) (hp : p ∈ formL) : DGet H q (.str p.1) (some (.str (ksignS p.2))) := by
  have e : some (V.str (ksignS p.2)) = valV formK (Sum.inr p.1) := by rw [val_form, form_of p hp]; rfl
  exact .inl ⟨formK, Sum.inr p.1, .inr ⟨o, h⟩, rfl, e⟩
abbrev sScr : Stmt := top 33
abbrev nScr : List Str := ["_law_held", "_law_plan", "_law_within", "_law_rows", "_law_forms_here", "_law_words", "_law_k", "_law_word_here", "_law_kind"]
theorem scScr : FnScope nScr ["_law_held", "_law_plan", "_law_within"] (defScope sScr) := ⟨rfl, rfl, rfl, by decide +kernel, rfl, by decide +kernel, by decide +kernel⟩
theorem step_scr {f fP fF fK fD : Addr} {fd dP dF dK dD : FuncData} (F : Fun K "_law_script" "_law_script" sScr f fd) (j : Nat)
    (GP : FnOk P w K mg pB CX0 (2 * j + 7) fP dP ["_law_held", "_law_kind", "_law_plan", "_law_within"] (spPart j)) (mP : mg "_law_part" = some (.ref fP)) (kP : PySem.W.keepIn K (.ref fP) = true) (bP : Binds K dP ["_law_held", "_law_kind", "_law_plan", "_law_within"] [])
    (GF : FnOk P w K mg pB CX0 1 fF dF [] spForms) (mF : mg "_law_forms" = some (.ref fF)) (kF : PySem.W.keepIn K (.ref fF) = true) (bF : Binds K dF [] [])
    (GK : FnOk P w K mg pB CX0 2 fK dK ["_law_held", "_law_some"] spPick) (mK : mg "_law_pick" = some (.ref fK)) (kK : PySem.W.keepIn K (.ref fK) = true) (bK : Binds K dK ["_law_held", "_law_some"] [])
    (GD : FnOk P w K mg pB CX0 1 fD dD ["_law_held", "_law_many_here"] spDraw) (mD : mg "_law_draw" = some (.ref fD)) (kD : PySem.W.keepIn K (.ref fD) = true) (bD : Binds K dD ["_law_held", "_law_many_here"] [])
    (mT : mg "tuple" = none) (mR : mg "range" = none) : FnOk P w K mg pB CX0 (2 * j + 8) f fd ["_law_held", "_law_plan", "_law_within"] (spScr j) := by
  refine F.ok scScr (fun vs H Q E h => ?_) (fun cdv A outer s H vs Q E hr h => ?_)
  · obtain ⟨d, l, q, ms, n, L, a, rfl, _⟩ := h
    rfl
  · obtain ⟨d, l, q, ms, n, L, a, rfl, p, hq, ha0, hn, kont⟩ := h
    have nd := scScr.nd
    have hr1 : Room 1 _ := hr.mono (by omega)
    have hr2 : Room 2 _ := hr.mono (by omega)
    have hu := hu_of hr
    have hne := pen_plan p hq
    refine ⟨_, pss_cons (ps_asg (pe_tup (pa_cons (pe_lst pa_nil) (pa_cons (pe_call0 GF hr1 rfl mF kF bF .nil pass0) pa_nil))) (pg_tup rfl (pgs_cons (pg_name (i := 3) nd rfl (Or.inl rfl)) (pgs_cons (pg_name (i := 4) nd rfl (Or.inr rfl)) pgs_nil))))
      (pss_cons (ps_lock (ps_setLc (i := 5) (own := [("_law_word_here", 7)]) (g := gName 7) (tt := tOr (tTest (tOp (rI0 fun i j => .bl (decide (j < i))) (tVar 2) (tC (.int 1)))) (tTest (tOp (fun x y H Q => ∃ (c : Nat) (z : Str), x = .str ⟨#[c]⟩ ∧ y = .str z ∧ Q (.bl (!decide (c ∈ z.cps.toList))) H) (tC (.str "S")) (tDGet (tVar 4) (tVar 7))))) (te := tVar 7) rfl nd rfl rfl (sw_true rfl rfl rfl (by decide +kernel)) (pi_keys (pv 4))
          (blkOk_by (N := nScr) (sc := defScope sScr) (by decide +kernel)) (fun _ _ _ _ _ => pg_name (i := 7) nd rfl (Or.inl rfl) (Or.inr rfl))
          (fun _ _ _ _ _ => pts_one (PW.pt (pw_or (pt_cmpR op_gt (pv 2) pe_int (nomark _)) (pw_or1 (pt_cmpR op_notIn_sign pe_str (pe_dget hu (pv 4) (pv 7) (fun _ _ => rfl)) rfl))))) (fun _ _ _ _ _ => pv 7)))
      (pss_cons (ps_for PassesOwn.never rfl (pi_range1 rfl mR (pa_cons (pe_call GD hr1 rfl mD kD bD .nil pass0 (pa_cons (pv 0) (pa_cons pe_int pa_nil))) pa_nil)) (pg_name (i := 6) nd rfl (Or.inl rfl))
        (pss_one (ps_if (pt_cmpR op_gt (pe_dget hu (pv 1) pe_str (fun _ _ => rfl)) pe_int (nomark _))
          (pss_cons (ps_dput hu (pv 1) pe_str (pe_op op_sub (pe_dget hu (pv 1) pe_str (fun _ _ => rfl)) pe_int) rfl)
          (pss_cons (ps_set (i := 7) nd rfl (Or.inl rfl) (pe_call GK hr2 rfl mK kK bK .nil pass0 (pa_cons (pv 0) (pa_cons (pv 5) pa_nil))))
          (pss_one (ps_expr (pe_bm PySem.F.plainAttrs_list PySem.F.slot_list_append PySem.F.type_list_append mt_append (pv 3) (pa_cons (pe_tupleOf (by rfl) mT (pe_op op_cat (pe_lst (pa_cons (pv 7) pa_nil))
            (pe_lc (own := [("_law_kind", 8)]) (g := gName 8) (tt := tYes) (te := tCall (spPart j) [] E0 (tCons (tVar 0) (tCons (tVar 8) (tCons (tVar 1) (tCons (tVar 2) tNil))))) rfl nd (pi_str (pe_dget hu (pv 4) (pv 7) (fun _ _ => rfl)))
              (blkOk_by (N := nScr) (sc := defScope sScr) (by decide +kernel)) (fun _ _ _ _ _ => pg_name (i := 8) nd rfl (Or.inl rfl) (Or.inr rfl)) (fun _ _ _ _ _ => pts_nil)
              (fun _ _ _ _ _ => pe_call GP hr rfl mP kP bP .nil pass0 (pa_cons (pv 0) (pa_cons (pv 8) (pa_cons (pv 1) (pa_cons (pv 2) pa_nil)))))))) pa_nil)))))) pss_nil)))
      (pss_one (ps_ret (pe_tupleOf (by rfl) mT (pv 3)))))), ?_⟩
    refine asg_of ⟨Nat.zero_le _, fun R hR => ⟨rfl, fun Fm J sJ cF => ⟨by show 2 ≤ sizeLine; decide, fun tq htq => ⟨tq, _, rfl, SqT.of upd_same, rfl, _, _, rfl, _, _, rfl, rfl, ?_⟩⟩⟩⟩
    have cR : J R = some (.lst []) := sJ _ _ upd_same
    have s0 : Same H J := (Same.new (Same.refl _) hR).trans sJ
    have s1 : Same J (L2.upd J tq (.tup [.ref R, .ref Fm])) := Same.new (Same.refl _) htq
    have cF1 := s1 _ _ cF
    have cR1 := s1 _ _ cR
    have s01 := s0.trans s1
    generalize L2.upd J tq (.tup [.ref R, .ref Fm]) = J1 at s1 cF1 cR1 s01 ⊢
    refine ⟨Fm, .dK formK, cF1, trivial, fun od => ?_⟩
    refine ⟨_, rfl, Fm, od, rfl, .inl ⟨formK, upd_same, fun D hD => ?_⟩⟩
    have hDF : D ≠ Fm := fun z => by rw [z, upd_same] at hD; cases hD
    have hD1 : J1 D = none := by rw [upd_ne hDF] at hD; exact hD
    have hDR : D ≠ R := fun z => by rw [z, cR1] at hD1; cases hD1
    have hDH : H D = none := by
      cases e : H D with
      | none => rfl
      | some o => rw [s01 _ _ e] at hD1; cases hD1
    refine lc_it walk_keys (fun i H' => Same (L2.upd J1 Fm (.frz od (.dK formK))) H' ∧ H' D = some (.lst (((formL.take i).filter (wOk j)).map fun p => V.str p.1))) ⟨Same.new (Same.refl _) hD, upd_same⟩ (fun i H' _ p' => p'.1 _ _ upd_same) (fun i x H2 H3 hi p' y => ?_) (fun H2 p' => ?_)
    · obtain ⟨rfl, k, v, hk, rfl⟩ := y
      obtain ⟨p1, p2⟩ := p'
      obtain ⟨p0, hp0, e0⟩ : ∃ p0, formL[i]? = some p0 ∧ (Sum.inr p0.1, V.str (ksignS p0.2)) = (k, v) := by
        unfold formK at hk
        rw [List.getElem?_map] at hk
        exact Option.map_eq_some_iff.mp hk
      cases e0
      have hm0 : p0 ∈ formL := List.mem_of_getElem? hp0
      have hlen : (((formL.take i).filter (wOk j)).map fun p => V.str p.1).length < sizeLine := by
        rw [List.length_map]
        exact Nat.lt_of_le_of_lt (List.length_filter_le _ _) (Nat.lt_of_le_of_lt (List.length_take_le' _ _) (by decide +kernel))
      have yes : wOk j p0 = true → ∃ acc, H3 D = some (.lst acc) ∧ acc.length < sizeLine ∧ (Same (L2.upd J1 Fm (.frz od (.dK formK))) (L2.upd H3 D (.lst (acc ++ [V.str p0.1]))) ∧ (L2.upd H3 D (.lst (acc ++ [V.str p0.1]))) D = some (.lst (((formL.take (i + 1)).filter (wOk j)).map fun p => V.str p.1))) := fun hw => by
        refine ⟨_, p2, hlen, fun b o e => ?_, ?_⟩
        · rw [upd_ne (ne_of_none e hD)]; exact p1 b o e
        · rw [upd_same, take_snoc hp0, List.filter_append, List.filter_cons_of_pos hw, List.map_append]; rfl
      have no : wOk j p0 = false → Same (L2.upd J1 Fm (.frz od (.dK formK))) H3 ∧ H3 D = some (.lst (((formL.take (i + 1)).filter (wOk j)).map fun p => V.str p.1)) := fun hw => by
        refine ⟨p1, ?_⟩
        rw [take_snoc hp0, List.filter_append, List.filter_cons_of_neg (by rw [hw]; decide), List.filter_nil, List.append_nil]
        exact p2
      refine ⟨rfl, ?_⟩
      by_cases hj : 0 < j
      · refine ⟨_, rfl, _, _, rfl, rfl, _, rfl, iteY (by omega) (iteT ⟨_, rfl, yes ?_⟩)⟩
        unfold wOk
        rw [decide_eq_true hj]; rfl
      · refine ⟨_, rfl, _, _, rfl, rfl, _, rfl, iteN (by omega) ?_⟩
        refine ⟨_, rfl, _, rfl, Fm, _, rfl, form_getF (p1 _ _ upd_same) hm0, 83, ksignS p0.2, rfl, rfl, _, rfl, ?_⟩
        rw [sign_S]
        by_cases hS : Kd.S ∈ p0.2
        · rw [decide_eq_true hS]
          refine iteF (no ?_)
          unfold wOk
          rw [decide_eq_true hS, decide_eq_false hj]; rfl
        · rw [decide_eq_false hS]
          refine iteT ⟨_, rfl, yes ?_⟩
          unfold wOk
          rw [decide_eq_false hS, decide_eq_false hj]; rfl
    obtain ⟨p1, p2⟩ := p'
    refine ⟨p1 _ _ upd_same, ?_⟩
    have cW2 : H2 D = some (.lst (wordsL j)) := by
      rw [p2, List.take_of_length_le (by decide +kernel)]; rfl
    have cR2 : H2 R = some (.lst []) := p1 _ _ (by rw [upd_ne (ne_of cR1 cF1 (by intro z; cases z))]; exact cR1)
    have sH2 : Same H (L2.upd H2 Fm (.dK formK)) := fun b o e => by
      have e1 := s01 _ _ e
      by_cases hb : b = Fm
      · rw [hb] at e1 ⊢
        rw [upd_same, ← cF1]; exact e1
      · rw [upd_ne hb]
        exact p1 _ _ (by rw [upd_ne hb]; exact e1)
    have cF5 : (L2.upd H2 Fm (.dK formK)) Fm = some (.dK formK) := upd_same
    have cW5 : (L2.upd H2 Fm (.dK formK)) D = some (.lst (wordsL j)) := by rw [upd_ne hDF]; exact cW2
    have cR5 : (L2.upd H2 Fm (.dK formK)) R = some (.lst []) := by rw [upd_ne (ne_of cR1 cF1 (by intro z; cases z))]; exact cR2
    generalize L2.upd H2 Fm (.dK formK) = H5 at sH2 cF5 cW5 cR5 ⊢
    clear p1 p2 cW2 cR2 hD hD1 cF1 cR1 s1 s01 cR s0 sJ cF htq
    have p5 := p.same sH2
    have hRd : ∀ {H' : Hp} {n' L' : Int} {o : HO}, Pen H' d l ms n' L' → H' R = some o → (∃ ys, o = .lst ys) → R ≠ d := fun pn e ⟨ys, eo⟩ => ne_of e pn.dc (by rw [eo]; intro z; cases z)
    have hFd : Fm ≠ d := ne_of cF5 p5.dc (by intro z; have := congrArg List.length (HO.dK.inj z); simp [pen, formK, formL] at this)
    have hFq : Fm ≠ q := ne_of cF5 (sH2 _ _ hq) (by intro z; have := congrArg List.length (HO.dK.inj z); simp [planK, formK, formL] at this)
    have hWd : D ≠ d := ne_of cW5 p5.dc (by intro z; cases z)
    have hWq : D ≠ q := ne_of cW5 (sH2 _ _ hq) (by intro z; cases z)
    have hRd : R ≠ d := ne_of cR5 p5.dc (by intro z; cases z)
    have hRq : R ≠ q := ne_of cR5 (sH2 _ _ hq) (by intro z; cases z)
    have hRF : R ≠ Fm := ne_of cR5 cF5 (by intro z; cases z)
    refine rd_dr (m := 7) rfl (fun _ h => h) p5 (by omega) (by decide) (by decide) fun r n6 L6 H6 r0 r1 x6 => ?_
    have h6 := x6.hi
    have g6 : Dg H H6 d l ms n n6 L6 q a a 1 := ⟨fun c o e h1 _ => x6.kp _ _ (sH2 _ _ e) h1, x6.pn, x6.kp _ _ (sH2 _ _ hq) hne, x6.lo, x6.hi, ha0, Int.le_refl _⟩
    have cF6 := x6.kp _ _ cF5 hFd
    have cW6 := x6.kp _ _ cW5 hWd
    have cR6 := x6.kp _ _ cR5 hRd
    clear x6 cF5 cW5 cR5
    refine ⟨_, rfl, by omega, by omega, ?_⟩
    refine for_range (lo := 0) (n := r.toNat) (fun i σ H' => ∃ (x6 x7 : Option V) (n' L' a' : Int) (ys : List V) (ts : List PyData) (c c0 : Nat), σ = [some (.ref d), some (.ref q), some (.int ((j + 1 : Nat) : Int)), some (.ref R), some (.ref Fm), some (.ref D), x6, x7, none] ∧
      Dg H H' d l ms n n' L' q a a' (60000 * c + 1) ∧ (c : Int) = a - a' ∧ H' R = some (.lst ys) ∧ H' Fm = some (.dK formK) ∧ H' D = some (.lst (wordsL j)) ∧ Paired (Rep H' (2 * j + 3)) ys ts ∧ ys.length ≤ i ∧ sumO (ts.map (deedB (cnt j))) = some c0 ∧ ts.length + c0 = c ∧ szL ts ≤ 600 * c)
      ⟨none, none, n6, L6, a, [], [], 0, 0, rfl, g6.wk (by omega), by omega, cR6, cF6, cW6, .nil, Nat.zero_le _, rfl, rfl, Nat.zero_le _⟩ (fun i σ H7 hi p' => ?_) (fun σ H7 p' => ?_)
    · obtain ⟨y6, y7, n7, L7, a7, ys, ts, c, c0, rfl, g7, ec, cR7, cF7, cW7, hp7, hl7, hs7, hc7, hz7⟩ := p'
      have h7 := g7.hi
      refine ⟨_, rfl, q, _, rfl, plan_get g7.pl, _, _, rfl, rfl, _, rfl, ite2 (fun ca => ?_) (fun ca => ?_)⟩
      · have ca := of_decide_eq_true ca
        refine ⟨_, rfl, q, _, rfl, plan_get g7.pl, _, _, rfl, rfl, _, rfl, q, _, rfl, plan_put g7.pl, ?_⟩
        have ne7 := pen_plan g7.pn g7.pl
        have g8 := Dg.take g7.pn g7.pl ne7 (ne_of g7.pn.ls g7.pl (by intro z; cases z)) ca
        have cR8 := g8.kp _ _ cR7 hRd hRq
        have cF8 := g8.kp _ _ cF7 hFd hFq
        have cW8 := g8.kp _ _ cW7 hWd hWq
        have hp8 : Paired (Rep (L2.upd H7 q (.dK (planK (a7 - 1)))) (2 * j + 3)) ys ts := Paired.mapP hp7 fun _ _ z => g8.rep g7.pn g7.pl ne7 z
        generalize L2.upd H7 q (.dK (planK (a7 - 1))) = H8 at g8 cR8 cF8 cW8 hp8 ⊢
        refine nxt_of (asg_n ⟨_, rfl, _, rfl, d, l, ms, n7, L7, .ref D, rfl, g8.pn, by omega, .inr ⟨D, wordsL j, rfl, cW8, (words_len j).1, Nat.le_trans (words_len j).2 (by decide), fun xw n9 L9 H9 hxw x9 => ?_⟩⟩)
        obtain ⟨pf, hpf, rfl, hSf⟩ := mem_words hxw
        obtain ⟨fz1, fz2, fz3⟩ := form_sz pf hpf
        have g9 : Dg H7 H9 d l ms n7 n9 L9 q a7 (a7 - 1) 1 := (g8.trans (Dg.of x9 g8.pn g8.pl ne7 g8.l0)).wk (by omega)
        have cR9 := x9.kp _ _ cR8 hRd
        have cF9 := x9.kp _ _ cF8 hFd
        have cW9 := x9.kp _ _ cW8 hWd
        have hp9 : Paired (Rep H9 (2 * j + 3)) ys ts := Paired.mapP hp8 fun _ _ z => x9.rep g8.pn z
        have h9 := g9.hi
        clear g8 cR8 cF8 cW8 hp8 x9
        have hys : ys.length < sizeLine := Nat.lt_of_le_of_lt (show ys.length ≤ 7 by omega) (by decide)
        refine ⟨_, rfl, .inl ⟨rfl, _, SqL.of cR9⟩, ?_⟩
        refine ⟨_, rfl, by show 1 ≤ sizeLine; decide, fun u hu => ?_⟩
        have s10 : Same H9 (L2.upd H9 u (.lst [.str pf.1])) := Same.new (Same.refl _) hu
        have g10 := g9.same s10
        have cR10 := s10 _ _ cR9
        have cF10 := s10 _ _ cF9
        have cW10 := s10 _ _ cW9
        have hp10 : Paired (Rep (L2.upd H9 u (.lst [.str pf.1])) (2 * j + 3)) ys ts := Paired.mapP hp9 fun _ _ z => z.same s10
        have cu10 : (L2.upd H9 u (.lst [.str pf.1])) u = some (.lst [.str pf.1]) := upd_same
        generalize L2.upd H9 u (.lst [.str pf.1]) = H10 at s10 g10 cR10 cF10 cW10 hp10 cu10 ⊢
        clear g9 cR9 cF9 cW9 hp9
        have hud : u ≠ d := ne_of cu10 g10.pn.dc (by intro z; cases z)
        have huq : u ≠ q := ne_of cu10 g10.pl (by intro z; cases z)
        refine ⟨_, rfl, _, rfl, Fm, _, rfl, form_get cF10 hpf, ksignS pf.2, rfl, fun D2 hD2 => ?_⟩
        have ek : (ksignS pf.2).cps.size = pf.2.length := by show (pf.2.map ksign).toArray.size = _; rw [List.size_toArray, List.length_map]
        refine lc_str (x := ksignS pf.2) (fun i H' => ∃ (n' L' a' : Int) (zs : List V) (us : List PyData) (e : Nat), Dg H10 H' d l ms n9 n' L' q (a7 - 1) a' (60000 * e + 13002 * i) ∧ (e : Int) = (a7 - 1) - a' ∧ zs.length = i ∧ H' D2 = some (.lst zs) ∧ Paired (Rep H' (2 * j + 2)) zs us ∧ sumO (List.zipWith (partB (cnt j)) (pf.2.take i) us) = some e ∧ szL us ≤ ((pf.2.take i).map szK).sum + 600 * e)
          ⟨n9, L9, a7 - 1, [], [], 0, ((Dg.refl g10.pn g10.pl g10.l0).same (Same.new (Same.refl _) hD2)).wk (by omega), by omega, rfl, upd_same, .nil, rfl, Nat.zero_le _⟩ (fun i sg H11 hsg p' => ?_) (fun H11 p' => ?_)
        · obtain ⟨n', L', a', zs, us, e, g11, ee, hl, cD, hpz, hsum, hsz⟩ := p'
          have h11 := g11.hi
          obtain ⟨kd, hkd, rfl⟩ : ∃ kd, pf.2[i]? = some kd ∧ ksign kd = sg := by
            have h : (pf.2.map ksign).toArray[i]? = some sg := hsg
            rw [List.getElem?_toArray, List.getElem?_map] at h
            exact Option.map_eq_some_iff.mp h
          have hi4 : i < pf.2.length := (List.getElem?_eq_some_iff.mp hkd).1
          have hD2d : D2 ≠ d := ne_of cD g11.pn.dc (by intro z; cases z)
          have hD2q : D2 ≠ q := ne_of cD g11.pl (by intro z; cases z)
          refine ⟨rfl, yes_of (iteT (call_of ⟨_, rfl, _, rfl, _, rfl, _, rfl, d, l, q, ms, n', L', a', kd, rfl, g11.pn, g11.pl, g11.l0, by omega, fun ej z => hSf ej (by rw [← z]; exact List.mem_of_getElem? hkd), fun v x n12 L12 a12 H12 c12 hr12 hb12 ec12 hz12 x12 => ?_⟩))⟩
          have cD12 := x12.kp _ _ cD hD2d hD2q
          have hlu : us.length = i := by have := Paired.length hpz; omega
          refine ⟨zs, cD12, Nat.lt_of_le_of_lt (show zs.length ≤ 4 by omega) (by decide), n12, L12, a12, zs ++ [v], us ++ [x], e + c12, ((g11.trans x12).upd g10.pn g10.pl hD2).wk (by omega), by omega, by rw [List.length_append, hl]; rfl, upd_same, ?_, ?_, ?_⟩
          · exact Paired.snoc (Paired.mapP hpz fun _ _ z => (x12.rep g11.pn g11.pl hne z).updL cD12) (hr12.updL cD12)
          · rw [take_snoc hkd, List.zipWith_append (by rw [List.length_take]; omega)]
            show sumO (_ ++ [partB (cnt j) kd x]) = _
            rw [hb12]
            exact sumO_s1 hsum
          · rw [take_snoc hkd, List.map_append, List.sum_append, szL_app]
            show szL us + (szD x + 0) ≤ _ + (szK kd + 0) + _
            omega
        · obtain ⟨n', L', a', zs, us, e, g11, ee, hl, cD, hpz, hsum, hsz⟩ := p'
          rw [ek] at hl hsum hsz g11
          rw [List.take_length] at hsum hsz
          have h11 := g11.hi
          have cu11 := g11.kp _ _ cu10 hud huq
          have hlu : us.length = pf.2.length := by have := Paired.length hpz; omega
          refine ⟨u, D2, _, zs, rfl, rfl, cu11, cD, by show 1 + zs.length ≤ sizeLine; exact Nat.le_trans (show 1 + zs.length ≤ 9 by omega) (by decide), fun pc hpc => ?_⟩
          refine .inl ⟨pc, _, rfl, SqL.of upd_same, fun tq htq => ?_⟩
          have s12 : Same H11 (L2.upd H11 pc (.lst ([V.str pf.1] ++ zs))) := Same.new (Same.refl _) hpc
          have s13 : Same (L2.upd H11 pc (.lst ([V.str pf.1] ++ zs))) (L2.upd (L2.upd H11 pc (.lst ([V.str pf.1] ++ zs))) tq (.tup ([V.str pf.1] ++ zs))) := Same.new (Same.refl _) htq
          have ct13 : (L2.upd (L2.upd H11 pc (.lst ([V.str pf.1] ++ zs))) tq (.tup ([V.str pf.1] ++ zs))) tq = some (.tup ([V.str pf.1] ++ zs)) := upd_same
          have s3 := s12.trans s13
          generalize L2.upd (L2.upd H11 pc (.lst ([V.str pf.1] ++ zs))) tq (.tup ([V.str pf.1] ++ zs)) = H13 at s3 ct13 s13 ⊢
          have cR13 := s3 _ _ (g11.kp _ _ cR10 hRd hRq)
          have cF13 := s3 _ _ (g11.kp _ _ cF10 hFd hFq)
          have cW13 := s3 _ _ (g11.kp _ _ cW10 hWd hWq)
          have hdb : deedB (cnt j) (.tuple (.str pf.1 :: us)) = some e := by
            rw [deedB, form_of pf hpf]
            show (if us.length = pf.2.length then _ else _) = _
            rw [if_pos hlu]
            exact hsum
          refine ⟨R, ys, _, rfl, rfl, cR13, hys, _, _, n', L', a', ys ++ [.ref tq], ts ++ [.tuple (.str pf.1 :: us)], c + 1 + e, c0 + e, rfl, ((((g7.trans (g10.trans g11)).same s3).upd p hq hR).wk (by omega)), by omega, upd_same, ?_, ?_, ?_, ?_, ?_, ?_, ?_⟩
          · rw [upd_ne (Ne.symm hRF)]; exact cF13
          · rw [upd_ne hDR]; exact cW13
          · exact Paired.snoc (Paired.mapP hp10 fun _ _ z => ((g11.rep g10.pn g10.pl hne z).same s3).updL cR13) ((rep_t (k := 2 * j + 2) ct13 (.cons (rep_s _) (Paired.mapP hpz fun _ _ z => z.same s3))).updL cR13)
          · rw [List.length_append]; show ys.length + 1 ≤ i + 1; omega
          · rw [List.map_append]
            show sumO (_ ++ [deedB (cnt j) (.tuple (.str pf.1 :: us))]) = _
            rw [hdb]
            exact sumO_s1 hs7
          · rw [List.length_append]; show ts.length + 1 + (c0 + e) = _; omega
          · rw [szL_app]
            show szL ts + (1 + (1 + pf.1.length + szL us) + 0) ≤ _
            omega
      · exact ⟨_, _, n7, L7, a7, ys, ts, c, c0, rfl, g7, ec, cR7, cF7, cW7, hp7, Nat.le_succ_of_le hl7, hs7, hc7, hz7⟩
    · obtain ⟨y6, y7, n7, L7, a7, ys, ts, c, c0, rfl, g7, ec, cR7, cF7, cW7, hp7, hl7, hs7, hc7, hz7⟩ := p'
      refine ⟨_, rfl, .inl ⟨R, ys, rfl, SqL.of cR7, fun tq htq => ?_⟩⟩
      have s8 : Same H7 (L2.upd H7 tq (.tup ys)) := Same.new (Same.refl _) htq
      refine kont (.ref tq) (.tuple ts) n7 L7 a7 _ c (rep_t (k := 2 * j + 3) upd_same (Paired.mapP hp7 fun _ _ z => z.same s8)) ?_ ec (by rw [szD]; omega) (g7.same s8)
      rw [cnt, hs7, ← hc7]; rfl
theorem ok_scripts {fP fS fF fK fD fV fW : Addr} {dP dS dF dK dD dV dW : FuncData} (FP : Fun K "_law_part" "_law_part" sPart fP dP) (mP : mg "_law_part" = some (.ref fP)) (bP : Binds K dP ["_law_held", "_law_kind", "_law_plan", "_law_within"] [])
    (FS : Fun K "_law_script" "_law_script" sScr fS dS) (mS : mg "_law_script" = some (.ref fS)) (bS : Binds K dS ["_law_held", "_law_plan", "_law_within"] [])
    (GF : FnOk P w K mg pB CX0 1 fF dF [] spForms) (mF : mg "_law_forms" = some (.ref fF)) (kF : PySem.W.keepIn K (.ref fF) = true) (bF : Binds K dF [] [])
    (GK : FnOk P w K mg pB CX0 2 fK dK ["_law_held", "_law_some"] spPick) (mK : mg "_law_pick" = some (.ref fK)) (kK : PySem.W.keepIn K (.ref fK) = true) (bK : Binds K dK ["_law_held", "_law_some"] [])
    (GD : FnOk P w K mg pB CX0 1 fD dD ["_law_held", "_law_many_here"] spDraw) (mD : mg "_law_draw" = some (.ref fD)) (kD : PySem.W.keepIn K (.ref fD) = true) (bD : Binds K dD ["_law_held", "_law_many_here"] [])
    (GV : FnOk P w K mg pB CX0 3 fV dV ["_law_held"] spWord) (mV : mg "_law_word" = some (.ref fV)) (kV : PySem.W.keepIn K (.ref fV) = true) (bV : Binds K dV ["_law_held"] [])
    (GW : FnOk P w K mg pB CX0 6 fW dW ["_law_held", "_law_within"] (spWor 2)) (mW : mg "_law_worth" = some (.ref fW)) (kW : PySem.W.keepIn K (.ref fW) = true) (bW' : Binds K dW ["_law_held", "_law_within"] [])
    (mInt : mg "int" = none) (mT : mg "tuple" = none) (mR : mg "range" = none) (mMax : mg "max" = none) : ∀ j, FnOk P w K mg pB CX0 (2 * j + 8) fS dS ["_law_held", "_law_plan", "_law_within"] (spScr j)
  | 0 => step_scr FS 0 (step_part FP 0 ok_bot mS FS.kp bS GD mD kD bD GV mV kV bV GW mW kW bW' mInt mT mR mMax) mP FP.kp bP GF mF kF bF GK mK kK bK GD mD kD bD mT mR
  | j + 1 => step_scr FS (j + 1) (step_part FP (j + 1) (ok_scripts FP mP bP FS mS bS GF mF kF bF GK mK kK bK GD mD kD bD GV mV kV bV GW mW kW bW' mInt mT mR mMax j) mS FS.kp bS GD mD kD bD GV mV kV bV GW mW kW bW' mInt mT mR mMax) mP FP.kp bP GF mF kF bF GK mK kK bK GD mD kD bD mT mR
end
end My

set_option Elab.async false
set_option linter.all false
set_option maxRecDepth 100000
set_option maxHeartbeats 4000000
namespace My
open PySem L2
/-! ### counts are the same at more levels -/
theorem sumO_map_mono {f g : PyData → Option Nat} (h : ∀ d c, f d = some c → g d = some c) : ∀ (ds : List PyData) (c : Nat), sumO (ds.map f) = some c → sumO (ds.map g) = some c
  | [], _, e => e
  | d :: ds, c, e => by
    rw [List.map_cons] at e ⊢
    cases hd : f d with
    | none => rw [hd] at e; cases e
    | some a =>
      rw [hd] at e
      rw [h d a hd]
      obtain ⟨b, hb, rfl⟩ := Option.map_eq_some_iff.mp (show (sumO (ds.map f)).map (a + ·) = some c from e)
      show (sumO (ds.map g)).map (a + ·) = _
      rw [sumO_map_mono h ds b hb]; rfl
theorem partB_mono {f g : PyData → Option Nat} (h : ∀ d c, f d = some c → g d = some c) {k : Kd} {d : PyData} {c : Nat} (e : partB f k d = some c) : partB g k d = some c := by
  unfold partB at e ⊢
  split
  · rename_i hk
    rw [if_pos hk] at e
    split
    · rename_i h2
      rw [if_pos h2] at e; exact e
    · rename_i h2
      rw [if_neg h2] at e; exact h d c e
  · rename_i hk
    rw [if_neg hk] at e; exact e
theorem sumO_zip_mono {f g : PyData → Option Nat} (h : ∀ d c, f d = some c → g d = some c) : ∀ (ks : List Kd) (ds : List PyData) (c : Nat), sumO (List.zipWith (partB f) ks ds) = some c → sumO (List.zipWith (partB g) ks ds) = some c
  | [], _, _, e => e
  | _ :: _, [], _, e => e
  | k :: ks, d :: ds, c, e => by
    rw [List.zipWith_cons_cons] at e ⊢
    cases hd : partB f k d with
    | none => rw [hd] at e; cases e
    | some a =>
      rw [hd] at e
      rw [partB_mono h hd]
      obtain ⟨b, hb, rfl⟩ := Option.map_eq_some_iff.mp (show (sumO (List.zipWith (partB f) ks ds)).map (a + ·) = some c from e)
      show (sumO (List.zipWith (partB g) ks ds)).map (a + ·) = _
      rw [sumO_zip_mono h ks ds b hb]; rfl
theorem deedB_mono {f g : PyData → Option Nat} (h : ∀ d c, f d = some c → g d = some c) (d : PyData) (c : Nat) (e : deedB f d = some c) : deedB g d = some c := by
  unfold deedB at e ⊢
  split
  · rename_i x ps
    simp only at e
    cases hf : formOf x with
    | none => rw [hf] at e; cases e
    | some ks =>
      rw [hf] at e
      simp only at e ⊢
      by_cases hl : ps.length = ks.length
      · rw [if_pos hl] at e ⊢
        exact sumO_zip_mono h ks ps c e
      · rw [if_neg hl] at e; cases e
  · rename_i hn
    split at e
    · rename_i x ps
      exact absurd rfl (hn x ps)
    · cases e
theorem cnt_mono : ∀ {n m : Nat} {d : PyData} {c : Nat}, n ≤ m → cnt n d = some c → cnt m d = some c
  | 0, _, _, _, _, e => by cases e
  | n + 1, 0, _, _, h, _ => absurd h (by omega)
  | n + 1, m + 1, d, c, h, e => by
    cases d with
    | tuple ds =>
      rw [cnt] at e ⊢
      obtain ⟨b, hb, rfl⟩ := Option.map_eq_some_iff.mp e
      rw [sumO_map_mono (fun d c => deedB_mono (fun d c z => cnt_mono (by omega) z) d c) ds b hb]
      rfl
    | _ => cases e
theorem cnt_isS {n c : Nat} {d : PyData} (hn : n ≤ 5) (h : cnt n d = some c) (hc : c ≤ 200) : isS d = true := by
  unfold isS
  rw [cnt_mono hn h]
  exact decide_eq_true hc
theorem cnt_isTup {n c : Nat} {d : PyData} (h : cnt n d = some c) : ∃ ds, d = .tuple ds := by
  cases n with
  | zero => cases h
  | succ n => cases d <;> first | exact ⟨_, rfl⟩ | cases h
theorem call_rpb {X : Cx} : CallR X (.builtin "repr") (fun xs H Q => ∃ b, xs = [.bl b] ∧ Q (.str (if b then "True" else "False")) H) := by
  intro pins s σ H xs us Q I r h
  obtain ⟨b, rfl, q⟩ := h
  obtain ⟨u, rfl, ru⟩ := vals1 r
  cases (show u = Value.bool b from ru)
  exact PySem.P.repr_of_bool ⟨.str _, H, I.tok _, ⟨_, rfl⟩, q⟩
theorem plan_new (v : Int) : mergeK [] [((Sum.inr "left" : Key), V.int v)] = planK v := by simp [mergeK, putK, planK]
section
variable {P : Program} {w : World} {K : PySem.W.Frag} {mg : Str → Option Value} {pB : Heap}
def spBentU : Sp := fun vs H Q E => ∃ m, m ≤ 18 ∧ spBent m vs H Q E
theorem ok_bentU {f : Addr} {fd : FuncData} (G : ∀ m, FnOk P w K mg pB CX0 (m + 3) f fd ["_law_held", "_law_it"] (spBent m)) : FnOk P w K mg pB CX0 21 f fd ["_law_held", "_law_it"] spBentU :=
  ⟨fun vs H Q E ⟨m, _, h⟩ => (G m).len vs H Q E h, fun A outer s H args us vs Q E hr e0 hb r ⟨m, hm, h⟩ => (G m).run A outer s H args us vs Q E (hr.mono (by omega)) e0 hb r h⟩
def spScrU : Sp := fun vs H Q E => ∃ j, j ≤ 4 ∧ spScr j vs H Q E
theorem ok_scrU {f : Addr} {fd : FuncData} (G : ∀ j, FnOk P w K mg pB CX0 (2 * j + 8) f fd ["_law_held", "_law_plan", "_law_within"] (spScr j)) : FnOk P w K mg pB CX0 16 f fd ["_law_held", "_law_plan", "_law_within"] spScrU :=
  ⟨fun vs H Q E ⟨j, _, h⟩ => (G j).len vs H Q E h, fun A outer s H args us vs Q E hr e0 hb r ⟨j, hj, h⟩ => (G j).run A outer s H args us vs Q E (hr.mono (by omega)) e0 hb r h⟩
def spLaw (K : PySem.W.Frag) : Sp := fun vs H Q _ => ∃ (a : Addr) (ns : List Int), vs = [.ref a] ∧ SqL K H a (ns.map V.int) ∧ ∀ H', Q (.bl true) H'
def zB : Nat → Nat
  | 0 => 24001
  | j + 1 => 2 * zB j + 20
theorem zB_le (j : Nat) (hj : j < 5) : zB j ≤ 400000 := by
  match j, hj with
  | 0, _ => decide
  | 1, _ => decide
  | 2, _ => decide
  | 3, _ => decide
  | 4, _ => decide
abbrev sLaw : Stmt := top 42
theorem scLaw : FnScope ["_law_script_here", "_law_held", "_law_k", "_law_todo", "_law_it", "_law_turn", "_law_odd_here"] ["_law_script_here"] (defScope sLaw) := ⟨rfl, rfl, rfl, by decide +kernel, rfl, by decide +kernel, by decide +kernel⟩
theorem ok_law {f fP fD fS fA fC fE fO : Addr} {fd dP dD dS dA dC dE dO : FuncData} (F : Fun K "law" "law" sLaw f fd)
    (GP : FnOk P w K mg pB CX0 1 fP dP ["_law_script_here"] (spPen K)) (mP : mg "_law_pen" = some (.ref fP)) (kP : PySem.W.keepIn K (.ref fP) = true) (bP : Binds K dP ["_law_script_here"] [])
    (GD : FnOk P w K mg pB CX0 1 fD dD ["_law_held", "_law_many_here"] spDraw) (mD : mg "_law_draw" = some (.ref fD)) (kD : PySem.W.keepIn K (.ref fD) = true) (bD : Binds K dD ["_law_held", "_law_many_here"] [])
    (GS : FnOk P w K mg pB CX0 16 fS dS ["_law_held", "_law_plan", "_law_within"] spScrU) (mS : mg "_law_script" = some (.ref fS)) (kS : PySem.W.keepIn K (.ref fS) = true) (bS : Binds K dS ["_law_held", "_law_plan", "_law_within"] [])
    (GA : FnOk P w K mg pB CX0 21 fA dA ["thing"] (spTest isS)) (mA : mg "is_script" = some (.ref fA)) (kA : PySem.W.keepIn K (.ref fA) = true) (bA : Binds K dA ["thing"] []) (qA : KBinds K dA ["thing"] ["thing"] (fun us ws => us ++ ws) (fun us ws => us ++ ws))
    (GC : FnOk P w K mg pB CX0 14 fC dC ["_law_it"] (spTest isS)) (mC : mg "_law_is_script" = some (.ref fC)) (kC : PySem.W.keepIn K (.ref fC) = true) (bC : Binds K dC ["_law_it"] [])
    (GE : FnOk P w K mg pB CX0 21 fE dE ["_law_held", "_law_it"] spBentU) (mE : mg "_law_bent" = some (.ref fE)) (kE : PySem.W.keepIn K (.ref fE) = true) (bE : Binds K dE ["_law_held", "_law_it"] [])
    (GO : FnOk P w K mg pB CX0 2 fO dO ["_law_held"] spOdd) (mO : mg "_law_odd" = some (.ref fO)) (kO : PySem.W.keepIn K (.ref fO) = true) (bO : Binds K dO ["_law_held"] [])
    (mR : mg "range" = none) (mRp : mg "repr" = none) (mL : mg "list" = none) : FnG P w K mg pB 22 f fd ["_law_script_here"] (spLaw K) := by
  refine okG F scLaw (fun vs H Q E h => ?_) (fun cdv A outer s H vs Q E hg hr h => ?_)
  · obtain ⟨a, ns, rfl, _⟩ := h
    rfl
  · obtain ⟨a, ns, rfl, hS, k⟩ := h
    have nd := scLaw.nd
    have hr1 : Room 1 _ := hr.mono (by decide)
    have hr2 : Room 2 _ := hr.mono (by decide)
    have hr14 : Room 14 _ := hr.mono (by decide)
    have hr16 : Room 16 _ := hr.mono (by decide)
    refine ⟨_, pss_cons (ps_set (i := 1) nd rfl (Or.inl rfl) (pe_call GP hr1 rfl mP kP bP .nil pass0 (pa_cons (pv 0) pa_nil)))
      (pss_cons (ps_for PassesOwn.never rfl (pi_range1 rfl mR (pa_cons pe_int pa_nil)) (pg_name (i := 2) nd rfl (Or.inl rfl))
        (pss_cons (ps_set (i := 3) nd rfl (Or.inl rfl) (pe_call GS hr16 rfl mS kS bS .nil pass0 (pa_cons (pv 1) (pa_cons
            (pe_disp (pps_cons pe_str (pe_ix ix_list (pe_lst (pa_cons pe_int (pa_cons pe_int pa_nil))) (pe_call GD hr1 rfl mD kD bD .nil pass0 (pa_cons (pv 1) (pa_cons pe_int pa_nil))) (fun _ _ => rfl)) pps_nil) (by rfl) (by rfl) (fun z => by cases z) (by decide))
            (pa_cons (pe_op op_add pe_int (pe_call GD hr1 rfl mD kD bD .nil pass0 (pa_cons (pv 1) (pa_cons pe_int pa_nil)))) pa_nil)))))
        (pss_cons (ps_if (PW.pt (pw_or (pt_cmpR op_notBl (pe_call GA hr rfl mA kA bA .nil pass0 (pa_cons (pv 3) pa_nil)) pe_bl (nomark _)) (pw_or1 (pt_cmpR op_notBl (pe_call GC hr14 rfl mC kC bC .nil pass0 (pa_cons (pv 3) pa_nil)) pe_bl (nomark _))))) (pss_one (ps_ret pe_bl)) pss_nil)
        (pss_cons (ps_set (i := 4) nd rfl (Or.inl rfl) (pv 3))
        (pss_cons (ps_for PassesOwn.never rfl (pi_range1 rfl mR (pa_cons pe_int pa_nil)) (pg_name (i := 5) nd rfl (Or.inl rfl))
          (pss_cons (ps_set (i := 4) nd rfl (Or.inl rfl) (pe_call GE hr rfl mE kE bE .nil pass0 (pa_cons (pv 1) (pa_cons (pv 4) pa_nil))))
          (pss_one (ps_if (pt_cmpR op_ne (pe_callB call_rpb (by rfl) mRp (by decide +kernel) (pa_cons (pe_call GA hr rfl mA kA bA .nil pass0 (pa_cons (pv 4) pa_nil)) pa_nil)) (pe_callB call_rpb (by rfl) mRp (by decide +kernel) (pa_cons (pe_call GC hr14 rfl mC kC bC .nil pass0 (pa_cons (pv 4) pa_nil)) pa_nil)) (nomark _)) (pss_one (ps_ret pe_bl)) pss_nil))))
        (pss_cons (ps_set (i := 6) nd rfl (Or.inl rfl) (pe_call GO hr2 rfl mO kO bO .nil pass0 (pa_cons (pv 1) pa_nil)))
        (pss_cons (ps_if (PW.pt (pw_or (pt_cmpR op_ne (pe_callB call_rpb (by rfl) mRp (by decide +kernel) (pa_cons (pe_call GA hr rfl mA kA bA .nil pass0 (pa_cons (pv 6) pa_nil)) pa_nil)) (pe_callB call_rpb (by rfl) mRp (by decide +kernel) (pa_cons (pe_call GC hr14 rfl mC kC bC .nil pass0 (pa_cons (pv 6) pa_nil)) pa_nil)) (nomark _))
            (pw_or1 (pt_cmpR op_notBl (pe_kw0 GA hr rfl mA kA qA pass0 (pk_cons (pv 3) pk_nil)) pe_bl (nomark _))))) (pss_one (ps_ret pe_bl)) pss_nil)
        (pss_one (ps_if (pt_cmpR op_notBl (pe_call GA hr rfl mA kA bA .nil pass0 (pa_cons (pe_callTy call_list_of (by rfl) mL (by decide +kernel) (pa_cons (pv 3) pa_nil)) pa_nil)) pe_bl (nomark _)) (pss_one (ps_ret pe_bl)) pss_nil)))))))))
      (pss_one (ps_ret pe_bl))), ?_⟩
    refine asg_n (call_of ⟨_, rfl, a, ns, rfl, hS, fun d l ms H1 hd hl s1 p1 => ?_⟩)
    refine ⟨10, rfl, by decide, by decide, for_range (lo := 0) (n := 10) (fun n σ H2 => ∃ (nn L : Int) (x2 x3 x4 x5 x6 : Option V), σ = [some (.ref a), some (.ref d), x2, x3, x4, x5, x6] ∧ Pen H2 d l ms nn L ∧ nn ≤ 3000000 * (n : Int)) ?_ ?_ ?_⟩
    · exact ⟨0, 0, _, _, _, _, _, rfl, p1, by decide⟩
    · rintro n σ H2 hn ⟨nn, L, x2, x3, x4, x5, x6, rfl, pn, hb⟩
      rw [Int.zero_add]
      refine asg_n (call_of ⟨_, rfl, fun dp hdp => ⟨by show 2 ≤ sizeLine; decide, fun u hu => ?_⟩⟩)
      have sd : Same H2 (L2.upd H2 dp (.dK [])) := Same.new (Same.refl _) hdp
      have su : Same (L2.upd H2 dp (.dK [])) (L2.upd (L2.upd H2 dp (.dK [])) u (.lst [.int 6, .int 40])) := Same.new (Same.refl _) hu
      have cd0 := su _ _ (upd_same (H := H2) (a := dp) (o := .dK []))
      have cu0 : (L2.upd (L2.upd H2 dp (.dK [])) u (.lst [.int 6, .int 40])) u = some (.lst [.int 6, .int 40]) := upd_same
      have s2 := sd.trans su
      have p2 := pn.same s2
      generalize L2.upd (L2.upd H2 dp (.dK [])) u (.lst [.int 6, .int 40]) = J0 at cd0 cu0 s2 p2 ⊢
      have hdpd : dp ≠ d := ne_of cd0 p2.dc (by intro z; have := congrArg List.length (HO.dK.inj z); simp [pen] at this)
      refine rd_dr (m := 2) rfl (fun _ h => h) p2 (by omega) (by decide) (by decide) fun r n1 L1 J1 r0 r1 y1 => ?_
      have b1 := y1.hi
      have cu1 := y1.kp _ _ cu0 (ne_of cu0 p2.dc (by intro z; cases z))
      have cd1 := y1.kp _ _ cd0 hdpd
      obtain ⟨v, hv, hat, _⟩ := atI_of (xs := [V.int 6, V.int 40]) r0 r1
      obtain ⟨left, rfl, lf0, lf1⟩ : ∃ i : Int, v = .int i ∧ 0 ≤ i ∧ i ≤ 40 := by
        simp only [List.mem_cons, List.mem_nil_iff, or_false] at hv
        rcases hv with rfl | rfl <;> exact ⟨_, rfl, by decide, by decide⟩
      refine ⟨u, _, _, _, rfl, rfl, SqL.of cu1, hat, cd1, [(Sum.inr "left", .int left)], rfl, by show 1 ≤ 15; decide, ?_⟩
      rw [plan_new]
      have p3 : Pen (L2.upd J1 dp (.dK (planK left))) d l ms n1 L1 := ⟨by rw [upd_ne (Ne.symm hdpd)]; exact y1.pn.dc, by rw [upd_ne (ne_of y1.pn.ls cd1 (by intro z; cases z))]; exact y1.pn.ls, y1.pn.n0, y1.pn.l0⟩
      have c3 : (L2.upd J1 dp (.dK (planK left))) dp = some (.dK (planK left)) := upd_same
      generalize L2.upd J1 dp (.dK (planK left)) = J2 at p3 c3 ⊢
      refine rd_dr (m := 5) rfl (fun _ h => h) p3 (by omega) (by decide) (by decide) fun r5 n2 L2 J3 q0 q1 y2 => ⟨_, _, rfl, rfl, ?_⟩
      have b2 := y2.hi
      obtain ⟨j, rfl⟩ : ∃ j : Nat, r5 = (j : Int) := ⟨r5.toNat, by omega⟩
      refine ⟨j, by omega, d, l, dp, ms, n2, L2, left, ?_, y2.pn, y2.kp _ _ c3 hdpd, lf0, by omega, fun todo t0 n3 L3 a3 J4 c hR0 hc ec hz0 y3 => ?_⟩
      · show [V.ref d, V.ref dp, V.int (1 + (j : Int))] = [V.ref d, V.ref dp, V.int ((j + 1 : Nat) : Int)]
        rw [show (1 + (j : Int)) = ((j + 1 : Nat) : Int) by omega]
      have b3 := y3.hi
      have hl0 := y3.l0
      have hT : isS t0 = true := cnt_isS (by omega) hc (by omega)
      have hR0 : Rep J4 12 todo t0 := hR0.mono (by omega)
      have hz1 : szD t0 ≤ 1000000 := by omega
      refine ⟨_, rfl, 12, todo, t0, rfl, hR0, hz1, fun J5 s5 => ⟨_, _, rfl, rfl, _, rfl, ?_⟩⟩
      rw [hT]
      refine iteF ⟨_, rfl, 12, todo, t0, rfl, hR0.same s5, hz1, fun J6 s6 => ⟨_, _, rfl, rfl, _, rfl, ?_⟩⟩
      rw [hT]
      have s56 := s5.trans s6
      refine iteF (nxt_of (asg_n ⟨_, rfl, ?_⟩))
      refine ⟨4, rfl, by decide, by decide, for_range (lo := 0) (n := 4) (fun i σ H3 => ∃ (nn L : Int) (v : V) (x : PyData) (x5 : Option V), σ = [some (.ref a), some (.ref d), some (.int (n : Int)), some todo, some v, x5, x6] ∧ Pen H3 d l ms nn L ∧ Rep H3 12 todo t0 ∧ Rep H3 (12 + 2 * i) v x ∧ szD x ≤ zB i ∧ nn ≤ 3000000 * (n : Int) + 2400010 + 300 * (i : Int)) ?_ ?_ ?_⟩
      · exact ⟨n3, L3, todo, t0, _, rfl, y3.pn.same s56, hR0.same s56, hR0.same s56, by show _ ≤ 24001; omega, by omega⟩
      · rintro i σ H3 hi ⟨n4, L4, v, x, x5, rfl, p4, hRt, hRv, hzv, hb4⟩
        rw [Int.zero_add]
        have hzB := zB_le i (by omega)
        have hzB' := zB_le (i + 1) (by omega)
        have hbB : bB (12 + 2 * i) ≤ 200 := by unfold bB; omega
        refine asg_n (call_of ⟨_, rfl, _, rfl, 12 + 2 * i, by omega, d, l, ms, n4, L4, v, x, rfl, p4, by omega, hRv, by omega, fun v' x' n5 L5 H5 hR5 hz5 y5 => ?_⟩)
        have b5 := y5.hi
        have hz5' : szD x' ≤ zB (i + 1) := by rw [zB]; omega
        refine ⟨_, rfl, _, v', x', rfl, hR5, by omega, fun J7 s7 => ⟨_, rfl, ?_⟩⟩
        refine ⟨_, rfl, _, v', x', rfl, hR5.same s7, by omega, fun J8 s8 => ⟨_, rfl, rfl, _, rfl, iteB0 (by simp) ?_⟩⟩
        have s78 := s7.trans s8
        exact ⟨n5, L5, v', x', _, rfl, y5.pn.same s78, (y5.rep p4 hRt).same s78, (hR5.same s78).mono (by omega), hz5', by omega⟩
      · rintro σ H3 ⟨n4, L4, v, x, x5, rfl, p4, hRt, hRv, hzv, hb4⟩
        refine nxt_of (asg_n (call_of ⟨_, rfl, d, l, ms, n4, L4, rfl, p4, by omega, fun vo xo n5 L5 H5 hR5 hz5 y5 => ?_⟩))
        have b5 := y5.hi
        have hRt5 := y5.rep p4 hRt
        refine ⟨_, rfl, _, vo, xo, rfl, hR5, by omega, fun J7 s7 => ⟨_, rfl, ?_⟩⟩
        refine ⟨_, rfl, _, vo, xo, rfl, hR5.same s7, by omega, fun J8 s8 => ⟨_, rfl, rfl, _, rfl, iteB0 (by simp) ?_⟩⟩
        have s78 := s7.trans s8
        refine ⟨_, rfl, 12, todo, t0, rfl, hRt5.same s78, hz1, fun J9 s9 => ⟨_, _, rfl, rfl, _, rfl, ?_⟩⟩
        rw [hT]
        have s79 := s78.trans s9
        obtain ⟨ds, rfl⟩ := cnt_isTup hc
        obtain ⟨k', tq, xs, _, rfl, htq, _⟩ := rep_tup (hRt5.same s79)
        refine iteF ⟨_, rfl, tq, xs, rfl, .inr (SqT.of htq), fun lq hlq => ?_⟩
        refine ⟨0, .ref lq, .list [], rfl, ⟨lq, _, rfl, upd_same⟩, by decide, fun J10 s10 => ⟨_, _, rfl, rfl, _, rfl, ?_⟩⟩
        rw [show isS (.list []) = false from rfl]
        refine iteF ?_
        exact ⟨n5, L5, _, _, _, _, _, rfl, (y5.pn.same s79).same ((Same.new (Same.refl _) hlq).trans s10), by omega⟩
    · rintro σ H2 _
      exact k H2
end
end My

set_option Elab.async false
set_option linter.all false
set_option maxRecDepth 100000
set_option maxHeartbeats 4000000
namespace My
open PySem L2
/-- the object is a tuple of these -/
def SqO (o : Obj) (xs : List V) : Prop := ∃ its n, o.cls = .type "tuple" ∧ o.data = .seq its n ∧ its.size ≤ sizeLine ∧ Vals xs its.toList
theorem sqt_of {K : PySem.W.Frag} {H : Hp} {a : Addr} {o : Obj} {xs : List V} (h : K.lookup a = some o) (s : SqO o xs) : SqT K H a xs := by
  obtain ⟨its, n, h1, h2, h3, h4⟩ := s
  exact .inr ⟨o, its, n, h, h1, h2, h3, h4⟩
theorem ent_of {K : PySem.W.Frag} {e : DictEntry} {p : Str × List Kd} {t : Tok} {a : Addr} {o : Obj} (h1 : e.key = .str p.1 t) (h2 : e.val = .ref a) (h3 : K.lookup a = some o) (h4 : SqO o (p.2.map fun k => V.str (kname k))) : EntAt K e p := ⟨⟨t, h1⟩, a, h2, fun H => sqt_of h3 h4⟩
end My

set_option Elab.async false
set_option linter.all false
set_option maxRecDepth 100000
set_option maxHeartbeats 4000000
namespace My
open PySem L2
theorem kb1 {K : PySem.W.Frag} {x qual y : Str} {st : Stmt} {f : Addr} {fd : FuncData} (F : Fun K x qual st f fd)
    (h1 : ∀ (kV doc pm : Value) (an : Option Addr) (cdv ct u : Value), bindArgs (PySem.W.fnOf x qual (defArgs st) (defBody st) (defScope st) .none kV doc pm an cdv ct) ⟨[u], []⟩ = pure [(y, u)])
    (h2 : ∀ (kV doc pm : Value) (an : Option Addr) (cdv ct u : Value), bindArgs (PySem.W.fnOf x qual (defArgs st) (defBody st) (defScope st) .none kV doc pm an cdv ct) ⟨[], [(y, u)]⟩ = pure [(y, u)]) : KBinds K fd [y] [y] (fun us ws => us ++ ws) (fun us ws => us ++ ws) := by
  obtain ⟨oc, od, kV, doc, pm, an, cdv, ct, osl, rfl, lk, hcd⟩ := F.ex
  refine ⟨fun s us ws _ hl => ?_, fun r1 r2 => r1.append r2⟩
  match us, ws, hl with
  | [], [u], _ => exact .of_eq (h2 kV doc pm an cdv ct u)
  | [u], [], _ => exact .of_eq (h1 kV doc pm an cdv ct u)
  | [], [], h => exact absurd h (by simp)
  | [], _ :: _ :: _, h => exact absurd h (by simp)
  | [_], _ :: _, h => exact absurd h (by simp)
  | _ :: _ :: _, _, h => exact absurd h (by simp)
theorem all_mk {l : PySem.W.OpenLaw} {w : World} {K : PySem.W.Frag} {h : Heap} {mg : Str → Option Value} {fa gisw gbtw gisv gwth gnam grnk gcou ggap gdue giss groo grod gfit gpen gdrw gpck gwrd gwor gfrs glpt gscr gfrm glwd glwt glip gmny glsc godd gbnt glaw : Addr} {dA cA : Addr} {esD esC : Array DictEntry} {nD nC : Nat} (X : K.In h) (G : h.Ns mainGlobals mg) (hfa : mg "law" = some (.ref fa))
    {odisw anisw odbtw anbtw odisv anisv odwth anwth odnam annam odrnk anrnk odcou ancou odgap angap oddue andue odiss aniss odroo anroo odrod anrod odfit anfit odpen anpen oddrw andrw odpck anpck odwrd anwrd odwor anwor odfrs anfrs odlpt anlpt odscr anscr odfrm anfrm odlwd anlwd odlwt anlwt odlip anlip odmny anmny odlsc anlsc ododd anodd odbnt anbnt odlaw anlaw : Option Addr} {slisw slbtw slisv slwth slnam slrnk slcou slgap sldue sliss slroo slrod slfit slpen sldrw slpck slwrd slwor slfrs sllpt slscr slfrm sllwd sllwt sllip slmny sllsc slodd slbnt sllaw : Array (Option Value)} {ocisw kVisw dcisw pmisw cdisw ctisw ocbtw kVbtw dcbtw pmbtw cdbtw ctbtw ocisv kVisv dcisv pmisv cdisv ctisv ocwth kVwth dcwth pmwth cdwth ctwth ocnam kVnam dcnam pmnam cdnam ctnam ocrnk kVrnk dcrnk pmrnk cdrnk ctrnk occou kVcou dccou pmcou cdcou ctcou ocgap kVgap dcgap pmgap cdgap ctgap ocdue kVdue dcdue pmdue cddue ctdue ociss kViss dciss pmiss cdiss ctiss ocroo kVroo dcroo pmroo cdroo ctroo ocrod kVrod dcrod pmrod cdrod ctrod ocfit kVfit dcfit pmfit cdfit ctfit ocpen kVpen dcpen pmpen cdpen ctpen ocdrw kVdrw dcdrw pmdrw cddrw ctdrw ocpck kVpck dcpck pmpck cdpck ctpck ocwrd kVwrd dcwrd pmwrd cdwrd ctwrd ocwor kVwor dcwor pmwor cdwor ctwor ocfrs kVfrs dcfrs pmfrs cdfrs ctfrs oclpt kVlpt dclpt pmlpt cdlpt ctlpt ocscr kVscr dcscr pmscr cdscr ctscr ocfrm kVfrm dcfrm pmfrm cdfrm ctfrm oclwd kVlwd dclwd pmlwd cdlwd ctlwd oclwt kVlwt dclwt pmlwt cdlwt ctlwt oclip kVlip dclip pmlip cdlip ctlip ocmny kVmny dcmny pmmny cdmny ctmny oclsc kVlsc dclsc pmlsc cdlsc ctlsc ocodd kVodd dcodd pmodd cdodd ctodd ocbnt kVbnt dcbnt pmbnt cdbnt ctbnt oclaw kVlaw dclaw pmlaw cdlaw ctlaw : Value} {tkMOST_LETTERS tkFARTHEST tkMOST_WORTHS tkWORTH_LEVELS tkLAST_RANK tkMOST_COUNT tkMOST_NAMES tkMOST_DEEDS tkSCRIPT_LEVELS : Tok}
    (aisw : PySem.W.nsIn K mainGlobals "is_word" = some (some (.ref gisw))) (lisw : K.lookup gisw = some ⟨ocisw, odisw, .func (PySem.W.fnOf "is_word" "is_word" (defArgs sIsWord) (defBody sIsWord) (defScope sIsWord) .none kVisw dcisw pmisw anisw cdisw ctisw), slisw⟩) (cisw : PySem.W.codeIn K cdisw "is_word" = true) (kisw : PySem.W.keepIn K (.ref gisw) = true)
    (abtw : PySem.W.nsIn K mainGlobals "is_between" = some (some (.ref gbtw))) (lbtw : K.lookup gbtw = some ⟨ocbtw, odbtw, .func (PySem.W.fnOf "is_between" "is_between" (defArgs sBtw) (defBody sBtw) (defScope sBtw) .none kVbtw dcbtw pmbtw anbtw cdbtw ctbtw), slbtw⟩) (cbtw : PySem.W.codeIn K cdbtw "is_between" = true) (kbtw : PySem.W.keepIn K (.ref gbtw) = true)
    (aisv : PySem.W.nsIn K mainGlobals "is_worth" = some (some (.ref gisv))) (lisv : K.lookup gisv = some ⟨ocisv, odisv, .func (PySem.W.fnOf "is_worth" "is_worth" (defArgs sIsWorth) (defBody sIsWorth) (defScope sIsWorth) .none kVisv dcisv pmisv anisv cdisv ctisv), slisv⟩) (cisv : PySem.W.codeIn K cdisv "is_worth" = true) (kisv : PySem.W.keepIn K (.ref gisv) = true)
    (awth : PySem.W.nsIn K mainGlobals "is_worth_within" = some (some (.ref gwth))) (lwth : K.lookup gwth = some ⟨ocwth, odwth, .func (PySem.W.fnOf "is_worth_within" "is_worth_within" (defArgs sWth) (defBody sWth) (defScope sWth) .none kVwth dcwth pmwth anwth cdwth ctwth), slwth⟩) (cwth : PySem.W.codeIn K cdwth "is_worth_within" = true) (kwth : PySem.W.keepIn K (.ref gwth) = true)
    (anam : PySem.W.nsIn K mainGlobals "is_names" = some (some (.ref gnam))) (lnam : K.lookup gnam = some ⟨ocnam, odnam, .func (PySem.W.fnOf "is_names" "is_names" (defArgs sNames) (defBody sNames) (defScope sNames) .none kVnam dcnam pmnam annam cdnam ctnam), slnam⟩) (cnam : PySem.W.codeIn K cdnam "is_names" = true) (knam : PySem.W.keepIn K (.ref gnam) = true)
    (arnk : PySem.W.nsIn K mainGlobals "is_rank" = some (some (.ref grnk))) (lrnk : K.lookup grnk = some ⟨ocrnk, odrnk, .func (PySem.W.fnOf "is_rank" "is_rank" (defArgs sRank) (defBody sRank) (defScope sRank) .none kVrnk dcrnk pmrnk anrnk cdrnk ctrnk), slrnk⟩) (crnk : PySem.W.codeIn K cdrnk "is_rank" = true) (krnk : PySem.W.keepIn K (.ref grnk) = true)
    (acou : PySem.W.nsIn K mainGlobals "is_count" = some (some (.ref gcou))) (lcou : K.lookup gcou = some ⟨occou, odcou, .func (PySem.W.fnOf "is_count" "is_count" (defArgs sCount) (defBody sCount) (defScope sCount) .none kVcou dccou pmcou ancou cdcou ctcou), slcou⟩) (ccou : PySem.W.codeIn K cdcou "is_count" = true) (kcou : PySem.W.keepIn K (.ref gcou) = true)
    (agap : PySem.W.nsIn K mainGlobals "is_gap" = some (some (.ref ggap))) (lgap : K.lookup ggap = some ⟨ocgap, odgap, .func (PySem.W.fnOf "is_gap" "is_gap" (defArgs sGap) (defBody sGap) (defScope sGap) .none kVgap dcgap pmgap angap cdgap ctgap), slgap⟩) (cgap : PySem.W.codeIn K cdgap "is_gap" = true) (kgap : PySem.W.keepIn K (.ref ggap) = true)
    (adue : PySem.W.nsIn K mainGlobals "is_due" = some (some (.ref gdue))) (ldue : K.lookup gdue = some ⟨ocdue, oddue, .func (PySem.W.fnOf "is_due" "is_due" (defArgs sDue) (defBody sDue) (defScope sDue) .none kVdue dcdue pmdue andue cddue ctdue), sldue⟩) (cdue : PySem.W.codeIn K cddue "is_due" = true) (kdue : PySem.W.keepIn K (.ref gdue) = true)
    (aiss : PySem.W.nsIn K mainGlobals "is_script" = some (some (.ref giss))) (liss : K.lookup giss = some ⟨ociss, odiss, .func (PySem.W.fnOf "is_script" "is_script" (defArgs sIsScript) (defBody sIsScript) (defScope sIsScript) .none kViss dciss pmiss aniss cdiss ctiss), sliss⟩) (ciss : PySem.W.codeIn K cdiss "is_script" = true) (kiss : PySem.W.keepIn K (.ref giss) = true)
    (aroo : PySem.W.nsIn K mainGlobals "room_behind" = some (some (.ref groo))) (lroo : K.lookup groo = some ⟨ocroo, odroo, .func (PySem.W.fnOf "room_behind" "room_behind" (defArgs sRoom) (defBody sRoom) (defScope sRoom) .none kVroo dcroo pmroo anroo cdroo ctroo), slroo⟩) (croo : PySem.W.codeIn K cdroo "room_behind" = true) (kroo : PySem.W.keepIn K (.ref groo) = true)
    (arod : PySem.W.nsIn K mainGlobals "room_behind_parts" = some (some (.ref grod))) (lrod : K.lookup grod = some ⟨ocrod, odrod, .func (PySem.W.fnOf "room_behind_parts" "room_behind_parts" (defArgs sRoomD) (defBody sRoomD) (defScope sRoomD) .none kVrod dcrod pmrod anrod cdrod ctrod), slrod⟩) (crod : PySem.W.codeIn K cdrod "room_behind_parts" = true) (krod : PySem.W.keepIn K (.ref grod) = true)
    (afit : PySem.W.nsIn K mainGlobals "fits" = some (some (.ref gfit))) (lfit : K.lookup gfit = some ⟨ocfit, odfit, .func (PySem.W.fnOf "fits" "fits" (defArgs sFits) (defBody sFits) (defScope sFits) .none kVfit dcfit pmfit anfit cdfit ctfit), slfit⟩) (cfit : PySem.W.codeIn K cdfit "fits" = true) (kfit : PySem.W.keepIn K (.ref gfit) = true)
    (apen : PySem.W.nsIn K mainGlobals "_law_pen" = some (some (.ref gpen))) (lpen : K.lookup gpen = some ⟨ocpen, odpen, .func (PySem.W.fnOf "_law_pen" "_law_pen" (defArgs sPen) (defBody sPen) (defScope sPen) .none kVpen dcpen pmpen anpen cdpen ctpen), slpen⟩) (cpen : PySem.W.codeIn K cdpen "_law_pen" = true) (kpen : PySem.W.keepIn K (.ref gpen) = true)
    (adrw : PySem.W.nsIn K mainGlobals "_law_draw" = some (some (.ref gdrw))) (ldrw : K.lookup gdrw = some ⟨ocdrw, oddrw, .func (PySem.W.fnOf "_law_draw" "_law_draw" (defArgs sDraw) (defBody sDraw) (defScope sDraw) .none kVdrw dcdrw pmdrw andrw cddrw ctdrw), sldrw⟩) (cdrw : PySem.W.codeIn K cddrw "_law_draw" = true) (kdrw : PySem.W.keepIn K (.ref gdrw) = true)
    (apck : PySem.W.nsIn K mainGlobals "_law_pick" = some (some (.ref gpck))) (lpck : K.lookup gpck = some ⟨ocpck, odpck, .func (PySem.W.fnOf "_law_pick" "_law_pick" (defArgs sPick) (defBody sPick) (defScope sPick) .none kVpck dcpck pmpck anpck cdpck ctpck), slpck⟩) (cpck : PySem.W.codeIn K cdpck "_law_pick" = true) (kpck : PySem.W.keepIn K (.ref gpck) = true)
    (awrd : PySem.W.nsIn K mainGlobals "_law_word" = some (some (.ref gwrd))) (lwrd : K.lookup gwrd = some ⟨ocwrd, odwrd, .func (PySem.W.fnOf "_law_word" "_law_word" (defArgs sWord) (defBody sWord) (defScope sWord) .none kVwrd dcwrd pmwrd anwrd cdwrd ctwrd), slwrd⟩) (cwrd : PySem.W.codeIn K cdwrd "_law_word" = true) (kwrd : PySem.W.keepIn K (.ref gwrd) = true)
    (awor : PySem.W.nsIn K mainGlobals "_law_worth" = some (some (.ref gwor))) (lwor : K.lookup gwor = some ⟨ocwor, odwor, .func (PySem.W.fnOf "_law_worth" "_law_worth" (defArgs sWor) (defBody sWor) (defScope sWor) .none kVwor dcwor pmwor anwor cdwor ctwor), slwor⟩) (cwor : PySem.W.codeIn K cdwor "_law_worth" = true) (kwor : PySem.W.keepIn K (.ref gwor) = true)
    (afrs : PySem.W.nsIn K mainGlobals "_law_forms" = some (some (.ref gfrs))) (lfrs : K.lookup gfrs = some ⟨ocfrs, odfrs, .func (PySem.W.fnOf "_law_forms" "_law_forms" (defArgs sForms) (defBody sForms) (defScope sForms) .none kVfrs dcfrs pmfrs anfrs cdfrs ctfrs), slfrs⟩) (cfrs : PySem.W.codeIn K cdfrs "_law_forms" = true) (kfrs : PySem.W.keepIn K (.ref gfrs) = true)
    (alpt : PySem.W.nsIn K mainGlobals "_law_part" = some (some (.ref glpt))) (llpt : K.lookup glpt = some ⟨oclpt, odlpt, .func (PySem.W.fnOf "_law_part" "_law_part" (defArgs sPart) (defBody sPart) (defScope sPart) .none kVlpt dclpt pmlpt anlpt cdlpt ctlpt), sllpt⟩) (clpt : PySem.W.codeIn K cdlpt "_law_part" = true) (klpt : PySem.W.keepIn K (.ref glpt) = true)
    (ascr : PySem.W.nsIn K mainGlobals "_law_script" = some (some (.ref gscr))) (lscr : K.lookup gscr = some ⟨ocscr, odscr, .func (PySem.W.fnOf "_law_script" "_law_script" (defArgs sScr) (defBody sScr) (defScope sScr) .none kVscr dcscr pmscr anscr cdscr ctscr), slscr⟩) (cscr : PySem.W.codeIn K cdscr "_law_script" = true) (kscr : PySem.W.keepIn K (.ref gscr) = true)
    (afrm : PySem.W.nsIn K mainGlobals "_law_is_from" = some (some (.ref gfrm))) (lfrm : K.lookup gfrm = some ⟨ocfrm, odfrm, .func (PySem.W.fnOf "_law_is_from" "_law_is_from" (defArgs sFrom) (defBody sFrom) (defScope sFrom) .none kVfrm dcfrm pmfrm anfrm cdfrm ctfrm), slfrm⟩) (cfrm : PySem.W.codeIn K cdfrm "_law_is_from" = true) (kfrm : PySem.W.keepIn K (.ref gfrm) = true)
    (alwd : PySem.W.nsIn K mainGlobals "_law_is_word" = some (some (.ref glwd))) (llwd : K.lookup glwd = some ⟨oclwd, odlwd, .func (PySem.W.fnOf "_law_is_word" "_law_is_word" (defArgs sLWord) (defBody sLWord) (defScope sLWord) .none kVlwd dclwd pmlwd anlwd cdlwd ctlwd), sllwd⟩) (clwd : PySem.W.codeIn K cdlwd "_law_is_word" = true) (klwd : PySem.W.keepIn K (.ref glwd) = true)
    (alwt : PySem.W.nsIn K mainGlobals "_law_is_worth" = some (some (.ref glwt))) (llwt : K.lookup glwt = some ⟨oclwt, odlwt, .func (PySem.W.fnOf "_law_is_worth" "_law_is_worth" (defArgs sLWorth) (defBody sLWorth) (defScope sLWorth) .none kVlwt dclwt pmlwt anlwt cdlwt ctlwt), sllwt⟩) (clwt : PySem.W.codeIn K cdlwt "_law_is_worth" = true) (klwt : PySem.W.keepIn K (.ref glwt) = true)
    (alip : PySem.W.nsIn K mainGlobals "_law_is_part" = some (some (.ref glip))) (llip : K.lookup glip = some ⟨oclip, odlip, .func (PySem.W.fnOf "_law_is_part" "_law_is_part" (defArgs sIsPart) (defBody sIsPart) (defScope sIsPart) .none kVlip dclip pmlip anlip cdlip ctlip), sllip⟩) (clip : PySem.W.codeIn K cdlip "_law_is_part" = true) (klip : PySem.W.keepIn K (.ref glip) = true)
    (amny : PySem.W.nsIn K mainGlobals "_law_many" = some (some (.ref gmny))) (lmny : K.lookup gmny = some ⟨ocmny, odmny, .func (PySem.W.fnOf "_law_many" "_law_many" (defArgs sMany) (defBody sMany) (defScope sMany) .none kVmny dcmny pmmny anmny cdmny ctmny), slmny⟩) (cmny : PySem.W.codeIn K cdmny "_law_many" = true) (kmny : PySem.W.keepIn K (.ref gmny) = true)
    (alsc : PySem.W.nsIn K mainGlobals "_law_is_script" = some (some (.ref glsc))) (llsc : K.lookup glsc = some ⟨oclsc, odlsc, .func (PySem.W.fnOf "_law_is_script" "_law_is_script" (defArgs sLScript) (defBody sLScript) (defScope sLScript) .none kVlsc dclsc pmlsc anlsc cdlsc ctlsc), sllsc⟩) (clsc : PySem.W.codeIn K cdlsc "_law_is_script" = true) (klsc : PySem.W.keepIn K (.ref glsc) = true)
    (aodd : PySem.W.nsIn K mainGlobals "_law_odd" = some (some (.ref godd))) (lodd : K.lookup godd = some ⟨ocodd, ododd, .func (PySem.W.fnOf "_law_odd" "_law_odd" (defArgs sOdd) (defBody sOdd) (defScope sOdd) .none kVodd dcodd pmodd anodd cdodd ctodd), slodd⟩) (codd : PySem.W.codeIn K cdodd "_law_odd" = true) (kodd : PySem.W.keepIn K (.ref godd) = true)
    (abnt : PySem.W.nsIn K mainGlobals "_law_bent" = some (some (.ref gbnt))) (lbnt : K.lookup gbnt = some ⟨ocbnt, odbnt, .func (PySem.W.fnOf "_law_bent" "_law_bent" (defArgs sBent) (defBody sBent) (defScope sBent) .none kVbnt dcbnt pmbnt anbnt cdbnt ctbnt), slbnt⟩) (cbnt : PySem.W.codeIn K cdbnt "_law_bent" = true) (kbnt : PySem.W.keepIn K (.ref gbnt) = true)
    (alaw : PySem.W.nsIn K mainGlobals "law" = some (some (.ref glaw))) (llaw : K.lookup glaw = some ⟨oclaw, odlaw, .func (PySem.W.fnOf "law" "law" (defArgs sLaw) (defBody sLaw) (defScope sLaw) .none kVlaw dclaw pmlaw anlaw cdlaw ctlaw), sllaw⟩) (claw : PySem.W.codeIn K cdlaw "law" = true) (klaw : PySem.W.keepIn K (.ref glaw) = true)
    (zisinstance : PySem.W.nsIn K mainGlobals "isinstance" = some none)
    (zstr : PySem.W.nsIn K mainGlobals "str" = some none)
    (zint : PySem.W.nsIn K mainGlobals "int" = some none)
    (zbool : PySem.W.nsIn K mainGlobals "bool" = some none)
    (ztuple : PySem.W.nsIn K mainGlobals "tuple" = some none)
    (zlen : PySem.W.nsIn K mainGlobals "len" = some none)
    (zall : PySem.W.nsIn K mainGlobals "all" = some none)
    (zlist : PySem.W.nsIn K mainGlobals "list" = some none)
    (zrange : PySem.W.nsIn K mainGlobals "range" = some none)
    (zrepr : PySem.W.nsIn K mainGlobals "repr" = some none)
    (zzip : PySem.W.nsIn K mainGlobals "zip" = some none)
    (zmax : PySem.W.nsIn K mainGlobals "max" = some none)
    (yMOST_LETTERS : PySem.W.nsIn K mainGlobals "MOST_LETTERS" = some (some (.int 8 tkMOST_LETTERS)))
    (yFARTHEST : PySem.W.nsIn K mainGlobals "FARTHEST" = some (some (.int 1000000000 tkFARTHEST)))
    (yMOST_WORTHS : PySem.W.nsIn K mainGlobals "MOST_WORTHS" = some (some (.int 20 tkMOST_WORTHS)))
    (yWORTH_LEVELS : PySem.W.nsIn K mainGlobals "WORTH_LEVELS" = some (some (.int 4 tkWORTH_LEVELS)))
    (yLAST_RANK : PySem.W.nsIn K mainGlobals "LAST_RANK" = some (some (.int 5 tkLAST_RANK)))
    (yMOST_COUNT : PySem.W.nsIn K mainGlobals "MOST_COUNT" = some (some (.int 1000 tkMOST_COUNT)))
    (yMOST_NAMES : PySem.W.nsIn K mainGlobals "MOST_NAMES" = some (some (.int 8 tkMOST_NAMES)))
    (yMOST_DEEDS : PySem.W.nsIn K mainGlobals "MOST_DEEDS" = some (some (.int 200 tkMOST_DEEDS)))
    (ySCRIPT_LEVELS : PySem.W.nsIn K mainGlobals "SCRIPT_LEVELS" = some (some (.int 5 tkSCRIPT_LEVELS)))
    (xD : PySem.W.nsIn K mainGlobals "DEEDS" = some (some (.ref dA)))
    (xDl : K.lookup dA = some ⟨.type "dict", none, .dict esD nD, #[]⟩)
    (xDt : PySem.W.KeysLit w.params esD.toList)
    (xDp : Paired (EntAt K) esD.toList formL)
    (xDs : (dA == sysModules) = false)
    (xC : PySem.W.nsIn K mainGlobals "CHECKS" = some (some (.ref cA)))
    (xCl : K.lookup cA = some ⟨.type "dict", none, .dict esC nC, #[]⟩)
    (xCt : PySem.W.KeysLit w.params esC.toList)
    (xCword : PySem.W.nsIn K cA "word" = some (some (.ref gisw)))
    (xCrank : PySem.W.nsIn K cA "rank" = some (some (.ref grnk)))
    (xCcount : PySem.W.nsIn K cA "count" = some (some (.ref gcou)))
    (xCgap : PySem.W.nsIn K cA "gap" = some (some (.ref ggap)))
    (xCdue : PySem.W.nsIn K cA "due" = some (some (.ref gdue)))
    (xCworth : PySem.W.nsIn K cA "worth" = some (some (.ref gisv)))
    (xCnames : PySem.W.nsIn K cA "names" = some (some (.ref gnam))) :
    ∃ fd : FuncData, (∀ (s : Shared) (v : Value), BindsTo s fd ⟨[v], []⟩ [("_law_script_here", v)]) ∧ ∀ base : Heap, K.In base → base.Ns mainGlobals mg → FnG l.prog w K mg base 22 fa fd ["_law_script_here"] (spLaw K) := by
  have e := hfa.symm.trans (PySem.W.mg_of X G alaw)
  cases e
  have Fisw := fun_mk (st := sIsWord) lisw cisw kisw
  have misw := PySem.W.mg_of X G aisw
  have bisw := Fisw.binds (ps := ["thing"]) fun _ _ _ _ _ _ us hl => match us, hl with | [_], _ => rfl
  have Fbtw := fun_mk (st := sBtw) lbtw cbtw kbtw
  have mbtw := PySem.W.mg_of X G abtw
  have bbtw := Fbtw.binds (ps := ["thing", "least", "most"]) fun _ _ _ _ _ _ us hl => match us, hl with | [_, _, _], _ => rfl
  have Fisv := fun_mk (st := sIsWorth) lisv cisv kisv
  have misv := PySem.W.mg_of X G aisv
  have bisv := Fisv.binds (ps := ["thing"]) fun _ _ _ _ _ _ us hl => match us, hl with | [_], _ => rfl
  have Fwth := fun_mk (st := sWth) lwth cwth kwth
  have mwth := PySem.W.mg_of X G awth
  have bwth := Fwth.binds (ps := ["thing", "levels"]) fun _ _ _ _ _ _ us hl => match us, hl with | [_, _], _ => rfl
  have Fnam := fun_mk (st := sNames) lnam cnam knam
  have mnam := PySem.W.mg_of X G anam
  have bnam := Fnam.binds (ps := ["thing"]) fun _ _ _ _ _ _ us hl => match us, hl with | [_], _ => rfl
  have Frnk := fun_mk (st := sRank) lrnk crnk krnk
  have mrnk := PySem.W.mg_of X G arnk
  have brnk := Frnk.binds (ps := ["thing"]) fun _ _ _ _ _ _ us hl => match us, hl with | [_], _ => rfl
  have Fcou := fun_mk (st := sCount) lcou ccou kcou
  have mcou := PySem.W.mg_of X G acou
  have bcou := Fcou.binds (ps := ["thing"]) fun _ _ _ _ _ _ us hl => match us, hl with | [_], _ => rfl
  have Fgap := fun_mk (st := sGap) lgap cgap kgap
  have mgap := PySem.W.mg_of X G agap
  have bgap := Fgap.binds (ps := ["thing"]) fun _ _ _ _ _ _ us hl => match us, hl with | [_], _ => rfl
  have Fdue := fun_mk (st := sDue) ldue cdue kdue
  have mdue := PySem.W.mg_of X G adue
  have bdue := Fdue.binds (ps := ["thing"]) fun _ _ _ _ _ _ us hl => match us, hl with | [_], _ => rfl
  have Fiss := fun_mk (st := sIsScript) liss ciss kiss
  have miss := PySem.W.mg_of X G aiss
  have biss := Fiss.binds (ps := ["thing"]) fun _ _ _ _ _ _ us hl => match us, hl with | [_], _ => rfl
  have Froo := fun_mk (st := sRoom) lroo croo kroo
  have mroo := PySem.W.mg_of X G aroo
  have broo := Froo.binds (ps := ["thing", "levels", "room"]) fun _ _ _ _ _ _ us hl => match us, hl with | [_, _, _], _ => rfl
  have Frod := fun_mk (st := sRoomD) lrod crod krod
  have mrod := PySem.W.mg_of X G arod
  have brod := Frod.binds (ps := ["deed", "levels", "room"]) fun _ _ _ _ _ _ us hl => match us, hl with | [_, _, _], _ => rfl
  have Ffit := fun_mk (st := sFits) lfit cfit kfit
  have mfit := PySem.W.mg_of X G afit
  have bfit := Ffit.binds (ps := ["kind", "part"]) fun _ _ _ _ _ _ us hl => match us, hl with | [_, _], _ => rfl
  have Fpen := fun_mk (st := sPen) lpen cpen kpen
  have mpen := PySem.W.mg_of X G apen
  have bpen := Fpen.binds (ps := ["_law_script_here"]) fun _ _ _ _ _ _ us hl => match us, hl with | [_], _ => rfl
  have Fdrw := fun_mk (st := sDraw) ldrw cdrw kdrw
  have mdrw := PySem.W.mg_of X G adrw
  have bdrw := Fdrw.binds (ps := ["_law_held", "_law_many_here"]) fun _ _ _ _ _ _ us hl => match us, hl with | [_, _], _ => rfl
  have Fpck := fun_mk (st := sPick) lpck cpck kpck
  have mpck := PySem.W.mg_of X G apck
  have bpck := Fpck.binds (ps := ["_law_held", "_law_some"]) fun _ _ _ _ _ _ us hl => match us, hl with | [_, _], _ => rfl
  have Fwrd := fun_mk (st := sWord) lwrd cwrd kwrd
  have mwrd := PySem.W.mg_of X G awrd
  have bwrd := Fwrd.binds (ps := ["_law_held"]) fun _ _ _ _ _ _ us hl => match us, hl with | [_], _ => rfl
  have Fwor := fun_mk (st := sWor) lwor cwor kwor
  have mwor := PySem.W.mg_of X G awor
  have bwor := Fwor.binds (ps := ["_law_held", "_law_within"]) fun _ _ _ _ _ _ us hl => match us, hl with | [_, _], _ => rfl
  have Ffrs := fun_mk (st := sForms) lfrs cfrs kfrs
  have mfrs := PySem.W.mg_of X G afrs
  have bfrs := Ffrs.binds (ps := []) fun _ _ _ _ _ _ us hl => match us, hl with | [], _ => rfl
  have Flpt := fun_mk (st := sPart) llpt clpt klpt
  have mlpt := PySem.W.mg_of X G alpt
  have blpt := Flpt.binds (ps := ["_law_held", "_law_kind", "_law_plan", "_law_within"]) fun _ _ _ _ _ _ us hl => match us, hl with | [_, _, _, _], _ => rfl
  have Fscr := fun_mk (st := sScr) lscr cscr kscr
  have mscr := PySem.W.mg_of X G ascr
  have bscr := Fscr.binds (ps := ["_law_held", "_law_plan", "_law_within"]) fun _ _ _ _ _ _ us hl => match us, hl with | [_, _, _], _ => rfl
  have Ffrm := fun_mk (st := sFrom) lfrm cfrm kfrm
  have mfrm := PySem.W.mg_of X G afrm
  have bfrm := Ffrm.binds (ps := ["_law_it", "_law_least", "_law_most"]) fun _ _ _ _ _ _ us hl => match us, hl with | [_, _, _], _ => rfl
  have Flwd := fun_mk (st := sLWord) llwd clwd klwd
  have mlwd := PySem.W.mg_of X G alwd
  have blwd := Flwd.binds (ps := ["_law_it"]) fun _ _ _ _ _ _ us hl => match us, hl with | [_], _ => rfl
  have Flwt := fun_mk (st := sLWorth) llwt clwt klwt
  have mlwt := PySem.W.mg_of X G alwt
  have blwt := Flwt.binds (ps := ["_law_it", "_law_left"]) fun _ _ _ _ _ _ us hl => match us, hl with | [_, _], _ => rfl
  have Flip := fun_mk (st := sIsPart) llip clip klip
  have mlip := PySem.W.mg_of X G alip
  have blip := Flip.binds (ps := ["_law_kind", "_law_it"]) fun _ _ _ _ _ _ us hl => match us, hl with | [_, _], _ => rfl
  have Fmny := fun_mk (st := sMany) lmny cmny kmny
  have mmny := PySem.W.mg_of X G amny
  have bmny := Fmny.binds (ps := ["_law_it", "_law_left"]) fun _ _ _ _ _ _ us hl => match us, hl with | [_, _], _ => rfl
  have Flsc := fun_mk (st := sLScript) llsc clsc klsc
  have mlsc := PySem.W.mg_of X G alsc
  have blsc := Flsc.binds (ps := ["_law_it"]) fun _ _ _ _ _ _ us hl => match us, hl with | [_], _ => rfl
  have Fodd := fun_mk (st := sOdd) lodd codd kodd
  have modd := PySem.W.mg_of X G aodd
  have bodd := Fodd.binds (ps := ["_law_held"]) fun _ _ _ _ _ _ us hl => match us, hl with | [_], _ => rfl
  have Fbnt := fun_mk (st := sBent) lbnt cbnt kbnt
  have mbnt := PySem.W.mg_of X G abnt
  have bbnt := Fbnt.binds (ps := ["_law_held", "_law_it"]) fun _ _ _ _ _ _ us hl => match us, hl with | [_, _], _ => rfl
  have Flaw := fun_mk (st := sLaw) llaw claw klaw
  have mlaw := PySem.W.mg_of X G alaw
  have nisinstance := PySem.W.mg_none_of X G zisinstance
  have nstr := PySem.W.mg_none_of X G zstr
  have nint := PySem.W.mg_none_of X G zint
  have nbool := PySem.W.mg_none_of X G zbool
  have ntuple := PySem.W.mg_none_of X G ztuple
  have nlen := PySem.W.mg_none_of X G zlen
  have nall := PySem.W.mg_none_of X G zall
  have nlist := PySem.W.mg_none_of X G zlist
  have nrange := PySem.W.mg_none_of X G zrange
  have nrepr := PySem.W.mg_none_of X G zrepr
  have nzip := PySem.W.mg_none_of X G zzip
  have nmax := PySem.W.mg_none_of X G zmax
  have vMOST_LETTERS := PySem.W.mg_of X G yMOST_LETTERS
  have vFARTHEST := PySem.W.mg_of X G yFARTHEST
  have vMOST_WORTHS := PySem.W.mg_of X G yMOST_WORTHS
  have vWORTH_LEVELS := PySem.W.mg_of X G yWORTH_LEVELS
  have vLAST_RANK := PySem.W.mg_of X G yLAST_RANK
  have vMOST_COUNT := PySem.W.mg_of X G yMOST_COUNT
  have vMOST_NAMES := PySem.W.mg_of X G yMOST_NAMES
  have vMOST_DEEDS := PySem.W.mg_of X G yMOST_DEEDS
  have vSCRIPT_LEVELS := PySem.W.mg_of X G ySCRIPT_LEVELS
  have qiss := kb1 (y := "thing") Fiss (fun _ _ _ _ _ _ _ => rfl) (fun _ _ _ _ _ _ _ => rfl)
  refine ⟨PySem.W.fnOf "law" "law" (defArgs sLaw) (defBody sLaw) (defScope sLaw) .none kVlaw dclaw pmlaw anlaw cdlaw ctlaw, fun s v => .of_eq rfl, fun base _ _ => ?_⟩
  have Gisw := ok_isword (P := l.prog) (w := w) (pB := base) Fisw nisinstance nstr nlen vMOST_LETTERS
  have Gbtw := ok_between (P := l.prog) (w := w) (pB := base) Fbtw nisinstance nint nbool
  have Gwth := ok_within Fwth mwth bwth Gisw misw kisw bisw Gbtw mbtw kbtw bbtw nisinstance ntuple nlen nall vFARTHEST vMOST_WORTHS
  have Gisv := ok_isworth Fisv (Gwth 4) mwth kwth bwth vWORTH_LEVELS
  have Gnam := ok_names Fnam Gisw misw kisw bisw nisinstance ntuple nlen nall vMOST_NAMES
  have Grnk := ok_rank Frnk Gbtw mbtw kbtw bbtw vLAST_RANK
  have Gcou := ok_count Fcou Gbtw mbtw kbtw bbtw vMOST_COUNT
  have Ggap := ok_gap Fgap Gbtw mbtw kbtw bbtw vMOST_COUNT
  have Gdue := ok_due Fdue Gcou mcou kcou bcou
  have D : Deeds K w mg dA esD nD := deeds_mk (PySem.W.mg_of X G xD) xDl xDt (by assumption) xDp
  have C : Checks l.prog w K mg base cA := ⟨PySem.W.mg_of X G xC, fun k hk => by
    cases k with
    | w => exact ⟨gisw, ⟨esC, nC, .ref gisw, xCl, xCt, xCword, rfl⟩, ⟨_, _, Gisw.mono (by decide), kisw, bisw⟩⟩
    | k => exact ⟨gcou, ⟨esC, nC, .ref gcou, xCl, xCt, xCcount, rfl⟩, ⟨_, _, Gcou.mono (by decide), kcou, bcou⟩⟩
    | r => exact ⟨grnk, ⟨esC, nC, .ref grnk, xCl, xCt, xCrank, rfl⟩, ⟨_, _, Grnk.mono (by decide), krnk, brnk⟩⟩
    | e => exact ⟨ggap, ⟨esC, nC, .ref ggap, xCl, xCt, xCgap, rfl⟩, ⟨_, _, Ggap.mono (by decide), kgap, bgap⟩⟩
    | i => exact ⟨gdue, ⟨esC, nC, .ref gdue, xCl, xCt, xCdue, rfl⟩, ⟨_, _, Gdue.mono (by decide), kdue, bdue⟩⟩
    | v => exact ⟨gisv, ⟨esC, nC, .ref gisv, xCl, xCt, xCworth, rfl⟩, ⟨_, _, Gisv.mono (by decide), kisv, bisv⟩⟩
    | n => exact ⟨gnam, ⟨esC, nC, .ref gnam, xCl, xCt, xCnames, rfl⟩, ⟨_, _, Gnam.mono (by decide), knam, bnam⟩⟩
    | S => cases hk
    | s => cases hk⟩
  have Gfit := ok_fits Ffit C
  have Groo := ok_rooms Frod mrod brod Froo mroo broo D Gisw misw kisw bisw Gfit mfit kfit bfit nisinstance ntuple nstr nlen
  have Giss := ok_isscript Fiss (Groo 5).1 mroo kroo broo vSCRIPT_LEVELS vMOST_DEEDS
  have Gpen := ok_pen (P := l.prog) (w := w) (base := base) Fpen nlist
  have Gdrw := ok_draw (P := l.prog) (w := w) (base := base) Fdrw nlen
  have Gpck := ok_pick Fpck Gdrw mdrw kdrw bdrw nlen
  have Gwrd := ok_word Fwrd Gdrw mdrw kdrw bdrw Gpck mpck kpck bpck nrange
  have Gwor := ok_wor Fwor mwor bwor Gdrw mdrw kdrw bdrw Gwrd mwrd kwrd bwrd nint ntuple nrange 2
  have Gfrs := ok_forms (P := l.prog) (w := w) (mg := mg) (pB := base) Ffrs
  have Gscr := ok_scrU (ok_scripts Flpt mlpt blpt Fscr mscr bscr Gfrs mfrs kfrs bfrs Gpck mpck kpck bpck Gdrw mdrw kdrw bdrw Gwrd mwrd kwrd bwrd Gwor mwor kwor bwor nint ntuple nrange nmax)
  have Gfrm := ok_from (P := l.prog) (w := w) (pB := base) Ffrm nisinstance nint nbool
  have Glwd := ok_lword (P := l.prog) (w := w) (pB := base) Flwd nisinstance nstr nlen
  have Glwt := ok_lworth Flwt mlwt blwt Glwd mlwd klwd blwd Gfrm mfrm kfrm bfrm nisinstance ntuple nlen 4
  have Glip := ok_ispart Flip Glwd mlwd klwd blwd Glwt mlwt klwt blwt Gfrm mfrm kfrm bfrm nisinstance ntuple nlen nint
  have Gmny := ok_many Fmny mmny bmny Gfrs mfrs kfrs bfrs Glip mlip klip blip nisinstance ntuple nstr nlen nzip 5
  have Glsc := ok_lscript Flsc Gmny mmny kmny bmny
  have Godd := ok_odd Fodd Gdrw mdrw kdrw bdrw
  have Gbnt := ok_bentU (ok_bent Fbnt mbnt bbnt Gdrw mdrw kdrw bdrw Godd modd kodd bodd nisinstance ntuple nlen nlist)
  exact ok_law Flaw Gpen mpen kpen bpen Gdrw mdrw kdrw bdrw Gscr mscr kscr bscr Giss miss kiss biss qiss Glsc mlsc klsc blsc Gbnt mbnt kbnt bbnt Godd modd kodd bodd nrange nrepr nlist
theorem walk {l : PySem.W.OpenLaw} {q : Program} {loose : List Str} {XP : (Str → Option Value) → Heap → Prop} {YP : World → Heap → Prop} {d : DefRec} {K : Params → PySem.W.Frag} (hn : l.most = some 63) (hdf : d.params.defaults = [])
    (hY : ∀ (w : World) (h : Heap), YP w h → (K w.params).In h)
    (F : ∀ (w : World) (mg : Str → Option Value) (fa : Addr) (h : Heap), (K w.params).In h → h.Ns mainGlobals mg → mg d.name = some (.ref fa) →
      ∃ fd : FuncData, (∀ (s : Shared) (u : Value), BindsTo s fd ⟨[u], []⟩ [("_law_script_here", u)]) ∧ ∀ base : Heap, (K w.params).In base → base.Ns mainGlobals mg → FnG l.prog w (K w.params) mg base 22 fa fd ["_law_script_here"] ((fun w => spLaw (K w.params)) w)) :
    PySem.W.WalkO q loose XP YP l.row.toRowW d [] (fun f vs => PySem.call f vs) :=
  walkG (n := 63) (k := 22) (x := "_law_script_here") (sp := fun w => spLaw (K w.params)) hn (by decide) hdf ⟨rfl, by decide, by decide⟩ hY F (fun _ _ a ns hl hS => ⟨a, ns, rfl, hS, fun _ => rfl⟩)
end My

set_option Elab.async false
set_option linter.all false
set_option maxRecDepth 100000
open PySem PySem.W PyProof.Rows
set_option maxRecDepth 100000 in
set_option maxHeartbeats 0 in
theorem PySem.Challenge.cw_rankloop_k62_what_is_a_script_holds : PySem.Challenge.rw_rankloop_k62_what_is_a_script.Holds := by
  w_on; o_law; k_head; (case hw => w_witness2)
  k_fill
  refine My.walk (l := PySem.Challenge.rw_rankloop_k62_what_is_a_script) rfl rfl (fun w h Y => PySem.W.kIn_of Y) ?F
  case F =>
    intro w mg fa h KX G hmg
    refine' My.all_mk KX G hmg ?aisw ?lisw ?cisw ?kisw ?abtw ?lbtw ?cbtw ?kbtw ?aisv ?lisv ?cisv ?kisv ?awth ?lwth ?cwth ?kwth ?anam ?lnam ?cnam ?knam ?arnk ?lrnk ?crnk ?krnk ?acou ?lcou ?ccou ?kcou ?agap ?lgap ?cgap ?kgap ?adue ?ldue ?cdue ?kdue ?aiss ?liss ?ciss ?kiss ?aroo ?lroo ?croo ?kroo ?arod ?lrod ?crod ?krod ?afit ?lfit ?cfit ?kfit ?apen ?lpen ?cpen ?kpen ?adrw ?ldrw ?cdrw ?kdrw ?apck ?lpck ?cpck ?kpck ?awrd ?lwrd ?cwrd ?kwrd ?awor ?lwor ?cwor ?kwor ?afrs ?lfrs ?cfrs ?kfrs ?alpt ?llpt ?clpt ?klpt ?ascr ?lscr ?cscr ?kscr ?afrm ?lfrm ?cfrm ?kfrm ?alwd ?llwd ?clwd ?klwd ?alwt ?llwt ?clwt ?klwt ?alip ?llip ?clip ?klip ?amny ?lmny ?cmny ?kmny ?alsc ?llsc ?clsc ?klsc ?aodd ?lodd ?codd ?kodd ?abnt ?lbnt ?cbnt ?kbnt ?alaw ?llaw ?claw ?klaw ?zisinstance ?zstr ?zint ?zbool ?ztuple ?zlen ?zall ?zlist ?zrange ?zrepr ?zzip ?zmax ?yMOST_LETTERS ?yFARTHEST ?yMOST_WORTHS ?yWORTH_LEVELS ?yLAST_RANK ?yMOST_COUNT ?yMOST_NAMES ?yMOST_DEEDS ?ySCRIPT_LEVELS ?xD ?xDl ?xDt ?xDp ?xDs ?xC ?xCl ?xCt ?xCword ?xCrank ?xCcount ?xCgap ?xCdue ?xCworth ?xCnames
    (case aisw => k_is)
    (case lisw => k_is)
    (case cisw => k_is)
    (case kisw => k_is)
    (case abtw => k_is)
    (case lbtw => k_is)
    (case cbtw => k_is)
    (case kbtw => k_is)
    (case aisv => k_is)
    (case lisv => k_is)
    (case cisv => k_is)
    (case kisv => k_is)
    (case awth => k_is)
    (case lwth => k_is)
    (case cwth => k_is)
    (case kwth => k_is)
    (case anam => k_is)
    (case lnam => k_is)
    (case cnam => k_is)
    (case knam => k_is)
    (case arnk => k_is)
    (case lrnk => k_is)
    (case crnk => k_is)
    (case krnk => k_is)
    (case acou => k_is)
    (case lcou => k_is)
    (case ccou => k_is)
    (case kcou => k_is)
    (case agap => k_is)
    (case lgap => k_is)
    (case cgap => k_is)
    (case kgap => k_is)
    (case adue => k_is)
    (case ldue => k_is)
    (case cdue => k_is)
    (case kdue => k_is)
    (case aiss => k_is)
    (case liss => k_is)
    (case ciss => k_is)
    (case kiss => k_is)
    (case aroo => k_is)
    (case lroo => k_is)
    (case croo => k_is)
    (case kroo => k_is)
    (case arod => k_is)
    (case lrod => k_is)
    (case crod => k_is)
    (case krod => k_is)
    (case afit => k_is)
    (case lfit => k_is)
    (case cfit => k_is)
    (case kfit => k_is)
    (case apen => k_is)
    (case lpen => k_is)
    (case cpen => k_is)
    (case kpen => k_is)
    (case adrw => k_is)
    (case ldrw => k_is)
    (case cdrw => k_is)
    (case kdrw => k_is)
    (case apck => k_is)
    (case lpck => k_is)
    (case cpck => k_is)
    (case kpck => k_is)
    (case awrd => k_is)
    (case lwrd => k_is)
    (case cwrd => k_is)
    (case kwrd => k_is)
    (case awor => k_is)
    (case lwor => k_is)
    (case cwor => k_is)
    (case kwor => k_is)
    (case afrs => k_is)
    (case lfrs => k_is)
    (case cfrs => k_is)
    (case kfrs => k_is)
    (case alpt => k_is)
    (case llpt => k_is)
    (case clpt => k_is)
    (case klpt => k_is)
    (case ascr => k_is)
    (case lscr => k_is)
    (case cscr => k_is)
    (case kscr => k_is)
    (case afrm => k_is)
    (case lfrm => k_is)
    (case cfrm => k_is)
    (case kfrm => k_is)
    (case alwd => k_is)
    (case llwd => k_is)
    (case clwd => k_is)
    (case klwd => k_is)
    (case alwt => k_is)
    (case llwt => k_is)
    (case clwt => k_is)
    (case klwt => k_is)
    (case alip => k_is)
    (case llip => k_is)
    (case clip => k_is)
    (case klip => k_is)
    (case amny => k_is)
    (case lmny => k_is)
    (case cmny => k_is)
    (case kmny => k_is)
    (case alsc => k_is)
    (case llsc => k_is)
    (case clsc => k_is)
    (case klsc => k_is)
    (case aodd => k_is)
    (case lodd => k_is)
    (case codd => k_is)
    (case kodd => k_is)
    (case abnt => k_is)
    (case lbnt => k_is)
    (case cbnt => k_is)
    (case kbnt => k_is)
    (case alaw => k_is)
    (case llaw => k_is)
    (case claw => k_is)
    (case klaw => k_is)
    (case zisinstance => k_is)
    (case zstr => k_is)
    (case zint => k_is)
    (case zbool => k_is)
    (case ztuple => k_is)
    (case zlen => k_is)
    (case zall => k_is)
    (case zlist => k_is)
    (case zrange => k_is)
    (case zrepr => k_is)
    (case zzip => k_is)
    (case zmax => k_is)
    (case yMOST_LETTERS => k_is)
    (case yFARTHEST => k_is)
    (case yMOST_WORTHS => k_is)
    (case yWORTH_LEVELS => k_is)
    (case yLAST_RANK => k_is)
    (case yMOST_COUNT => k_is)
    (case yMOST_NAMES => k_is)
    (case yMOST_DEEDS => k_is)
    (case ySCRIPT_LEVELS => k_is)
    (case xD => k_is)
    (case xDl => k_is)
    (case xDt => k_keys)
    (case xDp => (repeat (first | exact .nil | refine Paired.cons (My.ent_of rfl rfl (by k_is) ⟨_, _, rfl, rfl, by decide, by (repeat (first | exact .nil | refine .cons ⟨_, rfl⟩ ?_))⟩) ?_)))
    (case xDs => rfl)
    (case xC => k_is)
    (case xCl => k_is)
    (case xCt => k_keys)
    (case xCword => k_is)
    (case xCrank => k_is)
    (case xCcount => k_is)
    (case xCgap => k_is)
    (case xCdue => k_is)
    (case xCworth => k_is)
    (case xCnames => k_is)

