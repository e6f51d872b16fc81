import PyProof.Rows.All
import Wide.All
import OpenK.AllK
import Wide.FinOn
import KE.KEqNest
import KE.KRevSl
import HandS.ForMost
import HandS.IsInst
import HandS.TupAny
import HandS.TupMul
import HandS.Star
import HandS.FStr
import HandS.Flow
import HandS.Conv
import HandS.Codes
import HandS.RaiseMore
import HandS.Style
import HandS.Zip
import KE.KDictZip
import KE.GoesEnum
import KE.GoesMore
import KE.KDictList
import HandS.Walk
import PySem.Challenge.RW_rankloop_k01_ranks_chosen
set_option Elab.async false
set_option linter.all false
set_option maxRecDepth 100000
set_option maxHeartbeats 4000000
namespace My
open PySem L2 PyProof.Rows
theorem iteN {c A B : Prop} [Decidable c] (hc : ¬ c) (h : B) : if decide c = true then A else B := by
  rw [decide_eq_false hc]
  exact iteF h
theorem iteY {c A B : Prop} [Decidable c] (hc : c) (h : A) : if decide c = true then A else B := by
  rw [decide_eq_true hc]
  exact iteT h
theorem iteB0 {b : Bool} {A B : Prop} (hb : b = false) (h : B) : if b = true then A else B := by
  rw [hb]
  exact iteF h
theorem iteB1 {b : Bool} {A B : Prop} (hb : b = true) (h : A) : if b = true then A else B := by
  rw [hb]
  exact iteT h
theorem Same.new {H H' : Hp} {p : Addr} {o : HO} (s : Same H H') (h : H' p = none) : Same H (upd H' p o) := fun b u e => by
  have e' := s b u e
  rw [upd_ne (ne_of_none e' h)]
  exact e'
theorem asg_of {te : TE} {g : TG} {b : TS} {D : Ends} {σ : L2.St} {H : Hp} (h : te σ H fun x H1 => g x σ H1 fun σ2 H2 => b D σ2 H2) : tSeq (tAsg te g) b D σ H := h
theorem lst_of {t : TA} {σ : L2.St} {H : Hp} {Q : VK} (h : t σ H fun xs H1 => xs.length ≤ sizeLine ∧ ∀ p, H1 p = none → Q (.ref p) (upd H1 p (.lst xs))) : tLst t σ H Q := h
theorem cons_of {ta : TE} {tr : TA} {σ : L2.St} {H : Hp} {Q : List V → Hp → Prop} (h : ta σ H fun x H1 => tr σ H1 fun xs H2 => Q (x :: xs) H2) : tCons ta tr σ H Q := h
theorem nx_of {a b : TS} {D : Ends} {r : VK} {k c : L2.St → Hp → Prop} {σ : L2.St} {H : Hp} (h : tSeq a b D σ H) : Ends.nx { nx := tSeq a b D, rt := r, bk := k, ct := c } σ H := h
section
variable {X : Cx}
/-! ### a tuple against (), a list against [] -/
def rEqT0 (K : PySem.W.Frag) : R2 := fun x y H Q => ∃ a b xs, x = .ref a ∧ y = .ref b ∧ SqT K H a xs ∧ SqT K H b [] ∧ Q (.bl xs.isEmpty) H
theorem op_eqT0 (hu : X.A.units + 64 < cLine) : OpR X (compareOp .Eq) (rEqT0 X.K) := by
  intro pins s σ H x y v u Q I rx ry h
  obtain ⟨a, b, xs, rfl, rfl, ha, hb, q⟩ := h
  cases (show v = Value.ref a from rx)
  cases (show u = Value.ref b from ry)
  obtain ⟨its, r1, p1, _⟩ := I.tuple ha
  obtain ⟨its2, r2, p2, _⟩ := I.tuple hb
  cases r2
  refine PySem.W.eq_tuplesT (n := 0) (e := fun _ => true) p1 p2 (fun j h1 h2 => absurd h2 (by simp)) (by omega) ⟨.bl xs.isEmpty, H, I, ?_, q⟩
  have hl := r1.length
  show Value.bool _ = Value.bool _
  cases xs with
  | nil =>
    cases r1
    rfl
  | cons x xs =>
    cases its with
    | nil => cases r1
    | cons i is => simp
def rEqL0 (K : PySem.W.Frag) : R2 := fun x y H Q => ∃ a b xs, x = .ref a ∧ y = .ref b ∧ SqL K H a xs ∧ SqL K H b [] ∧ Q (.bl xs.isEmpty) H
theorem op_eqL0 (hu : X.A.units + 64 < cLine) : OpR X (compareOp .Eq) (rEqL0 X.K) := by
  intro pins s σ H x y v u Q I rx ry h
  obtain ⟨a, b, xs, rfl, rfl, ha, hb, q⟩ := h
  cases (show v = Value.ref a from rx)
  cases (show u = Value.ref b from ry)
  obtain ⟨its, r1, p1, _⟩ := I.list ha
  obtain ⟨its2, r2, p2, _⟩ := I.list hb
  cases r2
  cases xs with
  | nil =>
    cases r1
    exact PySem.W.eq_listsT (n := 0) (e := fun _ => true) p1.isList p2.isList rfl (fun j h1 h2 => absurd h2 (by simp)) (by omega) ⟨.bl true, H, I, rfl, q⟩
  | cons x xs =>
    cases its with
    | nil => cases r1
    | cons i is => exact SeqAt.eq_list_lengthsAt p1.isList p2.isList (by simp) (by omega) ⟨.bl false, H, I, rfl, q⟩
/-! ### t * 1 -/
theorem tuple_mul1 (l : Addr) (items : Array Value) (n : Nat) (dd : Option Addr) (sl : Array (Option Value)) (u : Tok) :
    Meets (Builtin.«tuple.__mul__» ⟨[.ref l, .int 1 u], []⟩) (fun _ R s => s.heap.get? l = some { cls := .type "tuple", dict := dd, data := .seq items n, slots := sl } ∧ R (.ok (.ret (Value.ref l))) s) :=
  .of_wp fun prog w A R s h => by
    obtain ⟨hp, g, d, tk, os⟩ := s
    obtain ⟨hl, h⟩ := h
    have f1 := AutoSeq1.idx_int
    wp_walk using wpAny_loadPart' hl
    exact ⟨_, rfl, h⟩
def rRepA (K : PySem.W.Frag) : R2 := fun x y H Q => ∃ l k xs, x = .ref l ∧ y = .int k ∧ SqT K H l xs ∧ xs ≠ [] ∧ 1 ≤ k ∧ k ≤ 1000 ∧ xs.length ≤ 1000 ∧
  (k = 1 → Q (.ref l) H) ∧ (2 ≤ k → ∀ p, H p = none → Q (.ref p) (upd H p (.tup (List.replicate k.toNat xs).flatten)))
theorem op_repA : OpR X (binaryOp .Mult) (rRepA X.K) := by
  intro pins s σ H x y v u Q I rx ry h
  obtain ⟨l, k, xs, rfl, rfl, hT, hne, h1, h2, hz, q1, q2⟩ := h
  by_cases hk : k = 1
  · subst hk
    cases rx
    obtain ⟨t, rfl⟩ := ry
    obtain ⟨its, r, ⟨⟨cls, dd, data, sl⟩, ho, hc, n, hd⟩, hs⟩ := I.tuple hT
    simp only at hc hd
    subst hc hd
    exact wpAny_binaryOp_repeat_ref (T := "tuple") (U := "int") (by decide) ⟨_, ho, rfl⟩ (fun s' => typeIs_int s' 1 t) noFill_tuple_mul F.fills_int_mul F.slot_int_rmul repeat_tuple F.slot_int_index.lookup
      (call_meets F.slot_int_rmul (typeIs_int s 1 t) F.entry_int_rmul (F.args_int_rmul_2 _ _) (int_rmul_tuple 1 t l its.toArray n dd sl)
        ⟨ho, rfl, ⟨_, ho, rfl⟩, call_meets F.slot_tuple_mul ⟨_, ho, rfl⟩ F.entry_tuple_mul (F.args_tuple_mul_2 _ _) (tuple_mul1 l its.toArray n dd sl t) ⟨ho, .ref l, H, I, rfl, q1 rfl⟩⟩)
  · exact op_repT pins s σ H _ _ v u Q I rx ry ⟨l, k, xs, rfl, rfl, hT, hne, by omega, h2, hz, q2 (by omega)⟩
/-! ### t[::-1] -/
theorem applied_rev {prog : Program} {w : World} {A : Around} {E : Value → Shared → Prop} {s : Shared} {sl : Addr} {vl vu vs : Value} {n : Nat} {Q : Int × Int × Nat → Shared → Prop} (hs : s.heap.IsSliceOf sl vl vu vs) (pl : IsPart vl none) (pu : IsPart vu none) (ps : IsPart vs (some (-1)))
    (h : Q ((n : Int) - 1, -1, n) s) : wpAny (model prog w) A (Builtin.Slice.sliceApplied (.ref sl) (pure (n : Int))) Q E s := by
  obtain ⟨os, hos, hcs, hds⟩ := id hs
  unfold Builtin.Slice.sliceApplied Builtin.Slice.sliceFields
  refine wpAny_bind (wpAny_bind (wpAny_field hos hds (x := vl) rfl (wpAny_bind (wpAny_field hos hds (x := vu) rfl (wpAny_bind (wpAny_field hos hds (x := vs) rfl (wpAny_pure ?_)))))))
  refine wpAny_bind (HT.slicePart_ ps ?_)
  show wpAny _ _ (if ((-1 : Int) == 0) = true then _ else _) _ _ s
  rw [if_neg (by decide)]
  refine wpAny_bind (HT.slicePart_ pl (wpAny_bind (HT.slicePart_ pu (wpAny_bind (wpAny_pure ?_)))))
  show wpAny _ _ (pure ((n : Int) - 1, (-1 : Int), Builtin.Slice.slicePlaces ((n : Int) - 1) (-1) (-1))) _ _ s
  have e : Builtin.Slice.slicePlaces ((n : Int) - 1) (-1) (-1) = n := by
    unfold Builtin.Slice.slicePlaces
    rw [if_neg (by decide)]
    by_cases hn : (n : Int) - 1 > -1
    · rw [if_pos hn, show (- -1 : Int) = 1 by decide, Int.ediv_one]; omega
    · rw [if_neg hn]; omega
  rw [e]
  exact wpAny_pure h
theorem pick_rev (xs : Array Value) : ((List.range xs.size).filterMap fun (m : Nat) => xs[((xs.size : Int) - 1 + (m : Int) * (-1)).toNat]?).toArray = xs.toList.reverse.toArray := by
  have e : ((List.range xs.size).filterMap fun (m : Nat) => xs[((xs.size : Int) - 1 + (m : Int) * (-1)).toNat]?) = ((List.range xs.size).map fun k => xs.size - 1 - k).filterMap (xs[·]?) := by
    rw [List.filterMap_map]
    refine congrArg (fun g => List.filterMap g (List.range xs.size)) ?_
    funext m
    show xs[((xs.size : Int) - 1 + (m : Int) * (-1)).toNat]? = xs[xs.size - 1 - m]?
    exact congrArg (fun z => xs[z]?) (by omega)
  rw [e, PySem.W.krv_range, List.filterMap_reverse, PySem.W.krv_all]
theorem item_rev {prog : Program} {w : World} {A : Around} {E : Value → Shared → Prop} {s : Shared} {t sl : Addr} {items : Array Value} {vl vu vs : Value} {Q : Value → Shared → Prop} (ht : IsTup s.heap t items) (hs : s.heap.IsSliceOf sl vl vu vs) (pl : IsPart vl none) (pu : IsPart vu none) (ps : IsPart vs (some (-1)))
    (h : Q (.ref s.heap.objs.size) { s with heap := s.heap.push { cls := .type "tuple", data := .seq items.toList.reverse.toArray } }) (hz : items.size ≤ sizeLine) : wpAny (model prog w) A (getItem (.ref t) (.ref sl)) Q E s := by
  have fits : sizeOk (.seq items.toList.reverse.toArray) := by
    show items.toList.reverse.toArray.size ≤ sizeLine
    rw [List.size_toArray, List.length_reverse, Array.length_toList]
    exact hz
  obtain ⟨os, hos, hcs, hds⟩ := id hs
  have hTs : s.TypeIs (.ref sl) "slice" := ⟨os, hos, hcs⟩
  unfold getItem
  try with_reducible refine wpAny_holding ?_
  first | refine wpAny_bind (wpAny_pure ?_) | skip
  refine wpAny_bind (wpAny_sequenceKey ht.typeIs (by decide) ?_)
  refine wpAny_bind (wpAny_callSpecial?_slot (name := Str.ofString "__getitem__") ht.typeIs PyProof.Rows.slot_tuple_getitem (wpAny_call_entry PyProof.Rows.slot_tuple_getitem ht.typeIs entry_tuple_getitem ?_ (args_tuple_getitem _ _)))
  show wpAny _ _ (Builtin.Tuple.tupleItemsOf (.ref t) >>= _) _ _ s
  refine wpAny_bind (tupleItemsOf_ ht ?_)
  refine wpAny_bind (wpAny_typeOf hTs ?_)
  rw [if_pos (by decide)]
  refine wpAny_bind (applied_rev hs pl pu ps ?_)
  have hno : ¬ (((items.size : Int) - 1 == 0 && (-1 : Int) == 1 && items.size == items.size) = true) := by simp
  show wpAny _ _ (if ((items.size : Int) - 1 == 0 && (-1 : Int) == 1 && items.size == items.size) = true then _ else _) _ _ s
  rw [if_neg hno, pick_rev]
  first
    | exact wpAny_bind (m := Builtin.Tuple.tupleExact _) (wpAny_newObj_type (wpAny_pure ⟨_, rfl, wpAny_pure h⟩) fits)
    | exact wpAny_bind (m := Builtin.Tuple.tupleExact _) (wpAny_newObj_type (wpAny_bind (wpAny_pure (wpAny_pure ⟨_, rfl, wpAny_pure h⟩))) fits)
    | exact wpAny_bind (wpAny_bind (m := Builtin.Tuple.tupleExact _) (wpAny_newObj_type (wpAny_pure (wpAny_pure ⟨_, rfl, wpAny_pure h⟩)) fits))
    | exact wpAny_bind (wpAny_bind (m := Builtin.Tuple.tupleExact _) (wpAny_newObj_type (wpAny_pure ⟨_, rfl, wpAny_pure h⟩) fits))
def tRevT (K : PySem.W.Frag) (te : TE) : TE := fun σ H Q => te σ H fun x H1 => ∃ a xs, x = .ref a ∧ SqT K H1 a xs ∧ ∀ p, H1 p = none → Q (.ref p) (upd H1 p (.tup xs.reverse))
theorem pe_revT {e : Expr} {te : TE} {k : Nat} {p1 p2 p3 pos : Pos} (he : PE X e te) : PE X (.Subscript e (.Slice none none (some (.UnaryOp .USub (.Constant (.int 1) k p1) p2)) p3) pos) (tRevT X.K te) := by
  refine ⟨fun pins s σ H Q I h => ?_⟩
  refine Subscript_ (thn (he.run pins s σ H _ I h) fun v s1 ⟨x, H1, I1, r1, q1⟩ => ?_)
  obtain ⟨a, xs, ex, hx, q⟩ := q1
  subst ex
  cases r1
  have hst : PO X (some (.UnaryOp .USub (.Constant (.int 1) k p1) p2)) (tPart (tUn (rU fun i => .int (-i)) (tC (.int 1)))) := po_some (pe_un un_neg pe_int)
  refine wpAny_Slice (thn (po_none.run pins s1 σ H1 (fun o H2 => o = none ∧ H2 = H1) I1 ⟨rfl, rfl⟩) fun vl s2 ⟨l, H2, I2, pl, el, e2⟩ => ?_)
  subst el e2
  refine thn (po_none.run pins s2 σ H2 (fun o H3 => o = none ∧ H3 = H2) I2 ⟨rfl, rfl⟩) fun vu s3 ⟨u, H3, I3, pu, eu, e3⟩ => ?_
  subst eu e3
  refine thn (hst.run pins s3 σ H3 (fun o H4 => o = some (-1) ∧ H4 = H3) I3 ⟨1, rfl, -1, rfl, rfl, rfl⟩) fun vs s4 ⟨o, H4, I4, ps, eo, e4⟩ => ?_
  subst eo e4
  have I5 : Inv X pins σ H4 { s4 with heap := s4.heap.push { cls := .type "slice", data := .fields #[vl, vu, vs] } } := I4.kept (t' := s4.toks) fun b ob q => Heap.get?_push_of_some _ q
  obtain ⟨its, r, ht, hz⟩ := I5.tuple hx
  have hlen := r.length
  show wpAny (model X.prog X.w) X.A (subscriptTail e (.Slice none none (some (.UnaryOp .USub (.Constant (.int 1) k p1) p2)) p3) (.ref a) (.ref s4.heap.objs.size)) (EP X pins σ Q) X.xe { s4 with heap := s4.heap.push { cls := .type "slice", data := .fields #[vl, vu, vs] } }
  refine tail_any (ops := [.ref a, .ref s4.heap.objs.size]) ht.typeIs (PyProof.Rows.slot_tuple_getitem.lookup) ?_ (by with_unfolding_all rfl)
  refine item_rev ht (Heap.IsSliceOf.new _ vl vu vs) pl pu ps ?_ (by rw [List.size_toArray]; omega)
  refine ⟨.ref _, _, I5.laid (t' := s4.toks) (o := .tup xs.reverse) (fun b ob q => Heap.get?_push_of_some _ q) (Nat.le_refl _) ?_, rfl, q _ (I5.hok.fresh (Nat.le_refl _))⟩
  exact ⟨by rw [List.length_reverse]; exact hz, _, r.reverse, IsTup.new _ _⟩
/-! ### a def called by names alone -/
theorem pe_kw0 {CX : CXT} {k : Nat} {f : Addr} {fd : FuncData} {ps ks : List Str} {sp : Sp} {E : XK} {x : Str} {p pos : Pos} {kws : List Keyword} {tk : TA} {g : List Value → List Value → List Value} {gV : List V → List V → List V}
    (F : FnOk X.prog X.w X.K X.mg X.base CX k f fd ps sp) (hr : Room k X.A) (hg : Gl X x) (hm : X.mg x = some (.ref f)) (hk : PySem.W.keepIn X.K (.ref f) = true) (hb : KBinds X.K fd ps ks g gV) (hx : Passes CX X E) (hkw : PK X kws tk)
    (hall : (backToKw pos (keywordEach kws X.env)).all (·.1.isSome) = true := by rfl) (hks : (backToKw pos (keywordEach kws X.env)).filterMap (·.1) = ks := by rfl) (hdb : (x == ("__debug__" : Str)) = false := by decide)
    (hpl : ((backTo pos (starEach [] X.env)).any (·.1) || (backToKw pos (keywordEach kws X.env)).any (·.1.isNone)) = false := by rfl) :
    PE X (.Call (.Name x p) [] kws pos) (tCallK sp gV E tNil tk) := by
  refine ⟨fun pins s σ H Q I h => ?_⟩
  refine wpAny_Call_Name_kw (ld_glob I hg hm ?_ hdb)
  refine PySem.W.callWith_KW0 (h₀ := X.base) I.ok.mod.kin hk hall ?_ hpl
  refine thn (hkw.run pos pins s σ H _ I h) fun ws s2 ⟨zs, H2, I2, rz, q2⟩ => ⟨I2.kIn, ?_⟩
  rw [hks]
  exact run_fnk (us := []) (vs := []) F hr hb hx I2 .nil rz q2
/-! ### a comprehension over a text -/
theorem lc_str {x : Str} {g : TG} {tt : TT} {te : TE} {vs : List Nat} {σ : L2.St} {H1 : Hp} {D : Addr} {Qd : Hp → Prop} (Pv : Nat → Hp → Prop) (h0 : Pv 0 (upd H1 D (.lst [])))
    (hs : ∀ i c H, x.cps[i]? = some c → Pv i H → g (.str ⟨#[c]⟩) (wipe σ vs) H fun σ2 H2 => wipe σ2 vs = wipe σ vs ∧ tt σ2 H2 fun b H3 =>
      if b = true then te σ2 H3 fun y H4 => ∃ acc, H4 D = some (.lst acc) ∧ acc.length < sizeLine ∧ Pv (i + 1) (upd H4 D (.lst (acc ++ [y]))) else Pv (i + 1) H3) (hd : ∀ H, Pv x.cps.size H → Qd H) :
    ∃ W : Nat → Nat → Hp → Prop, (∃ m, W 0 m (upd H1 D (.lst []))) ∧ ∀ i m H, W i m H →
      ((Its x).stop i H ∧ Qd H) ∨ ((Its x).go i H ∧ ∃ Nx : Hp → Prop, (∀ H', Nx H' → ∃ m', m' < m ∧ W (i + 1) m' H') ∧ ∀ y H', (Its x).yld i H y H' → g y (wipe σ vs) H' fun σ2 H2 => wipe σ2 vs = wipe σ vs ∧ tt σ2 H2 fun b H3 =>
        if b = true then te σ2 H3 fun y H4 => ∃ acc, H4 D = some (.lst acc) ∧ acc.length < sizeLine ∧ Nx (upd H4 D (.lst (acc ++ [y]))) else Nx H3) := by
  refine ⟨fun i m H => m = x.cps.size - i ∧ i ≤ x.cps.size ∧ Pv i H, ⟨_, rfl, Nat.zero_le _, h0⟩, ?_⟩
  rintro i m H ⟨rfl, hi, p⟩
  by_cases hlt : i < x.cps.size
  · refine .inr ⟨hlt, Pv (i + 1), fun H' p' => ⟨x.cps.size - (i + 1), by omega, rfl, hlt, p'⟩, fun y H' hy => ?_⟩
    obtain ⟨rfl, c, hc, rfl⟩ := hy
    exact hs i c _ hc p
  · have e : i = x.cps.size := by omega
    subst e
    exact .inl ⟨Nat.le_refl _, hd _ p⟩
end
end My

set_option Elab.async false
set_option linter.all false
set_option maxRecDepth 100000
set_option maxHeartbeats 4000000
namespace My
open PySem L2 PyProof.Rows
/-- repr of a list that is read as plain data; the def is called where nothing else is being shown -/
theorem call_reprL {X : Cx} (hg : X.A.guards = some []) (hu : X.A.units + 64 < cLine) : CallR X (.builtin "repr") (fun xs H Q => ∃ a d, xs = [.ref a] ∧ Dp X.K H (.ref a) d ∧ d.showable = true ∧ d.hasDict = false ∧ d.depth ≤ 60 ∧ d.shown.length ≤ sizeLine ∧ Q (.str d.shown) H) := by
  intro pins s σ H xs us Q I r h
  obtain ⟨a, d, rfl, hd, h1, h2, h3, h4, q⟩ := h
  obtain ⟨u, rfl, ru⟩ := vals1 r
  cases (show u = Value.ref a from ru)
  obtain ⟨as, rd⟩ := Dp.reads I d _ _ hd rfl
  exact repr_of_reads' rd h1 (PyData.noDict_hsm h2) hg (by omega) (fun _ _ e => e) (fun h' u tk hk => ⟨.str _, H, I.kept (t' := tk) hk, ⟨_, rfl⟩, q⟩) h4
/-- a def's promise where nothing is being shown around it -/
structure FnG (P : Program) (w : World) (K : PySem.W.Frag) (mg : Str → Option Value) (base : Heap) (k : Nat) (f : Addr) (fd : FuncData) (ps : List Str) (sp : Sp) : Prop where
  run : ∀ (A : Around) (outer : List Env) (s : Shared) (H : Hp) (args : Args) (us : List Value) (vs : List V) (Q : VK) (E : XK), A.guards = some [] → Room k A → Env0 P w K mg base A outer s H → BindsTo s fd args (ps.zip us) → Vals vs us → sp vs H Q E →
    codeAny (model P w) A (.call (.ref f) args) (CR CX0 outer P w H s Q E) s
theorem okG {P : Program} {w : World} {K : PySem.W.Frag} {mg : Str → Option Value} {base : Heap} {x qual : Str} {st : Stmt} {f : Addr} {fd : FuncData} {N ps : List Str} {k : Nat} {sp : Sp} (F : Fun K x qual st f fd) (S : FnScope N ps (defScope st)) (len : ∀ vs H Q E, sp vs H Q E → vs.length = ps.length)
    (hbody : ∀ (cdv : Value) (A : Around) (outer : List Env) (s : Shared) (H : Hp) (vs : List V) (Q : VK) (E : XK), A.guards = some [] → Room k (A.deeper (envOfC qual (defScope st) s.heap.objs.size f cdv)) → sp vs H Q E →
      ∃ t, PSs (cxOf CX0 P w K mg base N qual (defScope st) f cdv A outer s H E).nox (defBody st) t ∧ t { nx := fun _ H' => Q .non H', rt := Q } (start N vs) H) : FnG P w K mg base (k + 1) f fd ps sp := by
  refine ⟨fun A outer s H args us vs Q E hg => ?_⟩
  obtain ⟨oc, od, kV, doc, pm, an, cdv, ct, osl, rfl, lk, hcd⟩ := F.ex
  intro hr e0 hb r hsp
  have hl := len _ _ _ _ hsp
  have KX : K.In s.heap := e0.mod.kin.keeps fun b o e => (e0.bs b o e).1
  have lim : s.heap.NoLimit := e0.mod.nolimit.keeps fun b o e => (e0.bs b o e).1
  have kinds : ∀ y ∈ ps.zip us, (defScope st).names.lookup y.1 = some .local ∨ ((defScope st).names.lookup y.1 = some .cell ∧ ((cellsFrom (s.heap.objs.size + 1) (defScope st).names []).lookup y.1).isSome = true) := by
    rintro ⟨n, v⟩ hy
    rcases S.par n (List.of_mem_zip hy).1 with q | q
    · exact .inl q
    · exact .inr ⟨q, PySem.W.cellsFrom_some _ _ _ (.inl q)⟩
  refine codeAny_call_function hr.depth (KX _ _ lk) rfl S.co S.gen rfl (PySem.W.codeRec_of KX hcd) (hb _ _ _ _ ?_)
  refine wpAny_newFunctionEnv_cells S.kind kinds fun env he s1 x => ?_
  subst he
  refine ⟨lim.keeps x.toInCall.keep, codeAny_func ?_⟩
  obtain ⟨t, ht0, hq⟩ := hbody cdv A outer s H vs Q E hg (hr.deeper _) hsp
  have ht := ht0.nox
  have I : Inv (cxOf CX0 P w K mg base N qual (defScope st) f cdv A outer s H E) [] (start N vs) H s1 := inv_start S hr.hd e0 hl r x
  refine wpAny_mono (ht.run [] s1 (start N vs) H _ I hq) (fun fl s' hs => ?_) fun e s' hs => hs
  have fin : ∀ {σ' : L2.St} {H' : Hp} {v : V} {u : Value}, Inv (cxOf CX0 P w K mg base N qual (defScope st) f cdv A outer s H E) [] σ' H' s' → RelV v u → Q v H' → CE outer P w H s Q u s' := fun {σ' H' v u} J rv q =>
    ⟨v, H', J.os, J.bare, J.base, J.hok, rv, q⟩
  cases fl with
  | ret u =>
    obtain ⟨v, σ', H', J, rv, q⟩ := hs
    exact fin J rv q
  | next =>
    obtain ⟨σ', H', J, q⟩ := hs
    exact fin (v := V.non) (u := Value.none) J rfl q
  | brk =>
    obtain ⟨σ', H', J, q⟩ := hs
    exact q.elim
  | cont =>
    obtain ⟨σ', H', J, q⟩ := hs
    exact q.elim
/-- the law's call, from such a promise -/
theorem law_callG {P : Program} {w : World} {K : PySem.W.Frag} {mg mb : Str → Option Value} {k : Nat} {fa a : Addr} {fd : FuncData} {x : Str} {sp : Sp} {s1 : Shared} {vs : List Value} {ns : List Int}
    (KX : K.In s1.heap) (hns : s1.heap.Ns mainGlobals mg) (hb : s1.heap.Ns builtinsNs mb) (hbb : ∀ x : Str, x ≠ "__name__" → mb x = bootBuiltins x) (hlim : s1.heap.NoLimit) (hg : s1.gens = #[])
    (ha : s1.heap.get? a = some { cls := .type "list", data := .seq vs.toArray }) (hi : IntsAre vs ns) (hl : ns.length ≤ sizeLine) (hr : Room k callerA)
    (F : ∀ base : Heap, K.In base → base.Ns mainGlobals mg → FnG P w K mg base k fa fd [x] sp) (hbind : ∀ (s : Shared) (u : Value), BindsTo s fd ⟨[u], []⟩ [(x, u)])
    (hsp : ∀ H : Hp, SqL K H a (ns.map V.int) → sp [.ref a] H (fun v _ => v = .bl true) fun _ _ _ => False) :
    codeAny (model P w) callerA (.call (.ref fa) ⟨[.ref a], []⟩) (fun r s' => r = .ok (.ret (.bool true)) ∧ OldK s1.heap s'.heap ∧ s'.os = s1.os ∧ AllBare s'.gens) s1 := by
  have rv := vals_ints hi
  have lenV := hi.length
  have core : ∀ H : Hp, Only H → SqL K H a (ns.map V.int) → HOk P w H s1.heap → (∀ b, H b ≠ none → b = a) → (H a ≠ none → K.lookup a = none) →
      codeAny (model P w) callerA (.call (.ref fa) ⟨[.ref a], []⟩) (fun r s' => r = .ok (.ret (.bool true)) ∧ OldK s1.heap s'.heap ∧ s'.os = s1.os ∧ AllBare s'.gens) s1 := by
    intro H hO hS hok hA hK
    have free : ∀ {b : Addr} {o : Obj} {es : Array DictEntry} {ep : Nat}, s1.heap.get? b = some o → o.data = .dict es ep → H b = none := by
      intro b o es ep e dt
      cases hb' : H b with
      | none => rfl
      | some u =>
        have eb : b = a := hA b (by rw [hb']; simp)
        subst eb
        rw [ha] at e
        cases e
        cases (show Data.seq vs.toArray _ = Data.dict es ep from dt)
    have nsK : ∀ {b : Addr} {m : Str → Option Value}, s1.heap.Ns b m → (hidT s1.heap H).Ns b m := by
      rintro b m ⟨o, es, ep, e, dt, r⟩
      exact ⟨o, es, ep, hidT_get e (free e dt), dt, r⟩
    have hKb : K.In (hidT s1.heap H) := by
      intro b o e
      refine hidT_get (KX b o e) ?_
      cases hb' : H b with
      | none => rfl
      | some u =>
        have eb : b = a := hA b (by rw [hb']; simp)
        subst eb
        rw [hK (by rw [hb']; simp)] at e
        cases e
    have hM : Mod K mg (hidT s1.heap H) := ⟨hKb, nsK hns, ⟨mb, nsK hb, hbb⟩, let ⟨mc, h1, h2⟩ := hlim; ⟨mc, nsK h1, h2⟩⟩
    have e0 : Env0 P w K mg (hidT s1.heap H) callerA [] s1 H :=
      ⟨rfl, hM, fun b o e => of_hidT e, Nat.le_of_eq (hidT_size _ _), trivial, fun b hb => absurd (show b ∈ ([] : List Addr) from hb) (by simp), hok, .of_eq hg⟩
    refine codeAny_mono ((F _ hKb (nsK hns)).run callerA [] s1 H ⟨[.ref a], []⟩ [.ref a] [.ref a] _ _ rfl hr e0 (hbind s1 (.ref a)) (.cons rfl .nil) (hsp H hS)) fun r s' h => ?_
    cases r with
    | error e => exact False.elim h
    | ok fl =>
      cases fl with
      | next => exact False.elim h
      | brk => exact False.elim h
      | cont => exact False.elim h
      | ret u =>
        obtain ⟨v, H', os, bare, un, hok', r', q⟩ := h
        cases (show v = .bl true from q)
        obtain rfl : u = Value.bool true := r'
        refine ⟨rfl, OldK.of_keep fun b o e => ?_, os, bare⟩
        cases hb' : H b with
        | none => exact un.keep b o e hb' (by intro z; exact absurd (show b ∈ ([] : List Addr) from z) (by simp)) (by simp)
        | some u =>
          rcases hO b with z | ⟨ob, xs, z⟩
          · rw [hb'] at z; cases z
          · obtain ⟨e1, _⟩ := hok b _ z
            obtain ⟨e2, _⟩ := hok' b _ (un.frzs b ob _ z)
            rw [e] at e1
            cases e1
            exact e2
  cases hk : K.lookup a with
  | some o =>
    have e := KX a o hk
    rw [ha] at e
    cases e
    exact core (fun _ => none) (fun _ => .inl rfl) (.inr ⟨_, vs.toArray, _, hk, rfl, rfl, rfl, by rw [List.size_toArray, lenV]; exact hl, by simpa using rv⟩) (fun b u z => by cases (show (none : Option HO) = some u from z)) (fun b z => absurd rfl z) fun z => absurd rfl z
  | none =>
    refine core (fun b => if b = a then some (.frz { cls := .type "list", data := .seq vs.toArray } (.lst (ns.map V.int))) else none) (fun b => ?_) (.inl (.inr ⟨{ cls := .type "list", data := .seq vs.toArray }, if_pos rfl⟩)) (fun b u z => ?_) (fun b z => ?_) fun _ => hk
    · by_cases eb : b = a
      · exact .inr ⟨_, _, if_pos eb⟩
      · exact .inl (if_neg eb)
    · by_cases eb : b = a
      · cases ((if_pos eb).symm.trans z)
        subst eb
        exact ⟨ha, by rw [List.length_map]; exact hl, vs, _, rv, ha⟩
      · cases ((if_neg eb).symm.trans z)
    · by_cases eb : b = a
      · exact eb
      · exact absurd (if_neg eb) z
theorem walkG {l : PySem.W.OpenLaw} {n k : Nat} {q : Program} {loose : List Str} {XP : (Str → Option Value) → Heap → Prop} {YP : World → Heap → Prop} {d : DefRec} {K : Params → PySem.W.Frag} {sp : World → Sp} {x : Str}
    (hn : l.most = some n) (hn2 : n ≤ sizeLine) (hdf : d.params.defaults = []) (hr : Room k callerA) (hY : ∀ (w : World) (h : Heap), YP w h → (K w.params).In h)
    (F : ∀ (w : World) (mg : Str → Option Value) (fa : Addr) (h : Heap), (K w.params).In h → h.Ns mainGlobals mg → mg d.name = some (.ref fa) →
      ∃ fd : FuncData, (∀ (s : Shared) (u : Value), BindsTo s fd ⟨[u], []⟩ [(x, u)]) ∧ ∀ base : Heap, (K w.params).In base → base.Ns mainGlobals mg → FnG l.prog w (K w.params) mg base k fa fd [x] (sp w))
    (hsp : ∀ (w : World) (H : Hp) (a : Addr) (ns : List Int), ns.length ≤ n → SqL (K w.params) H a (ns.map V.int) → sp w [.ref a] H (fun v _ => v = .bl true) fun _ _ _ => False) :
    PySem.W.WalkO q loose XP YP l.row.toRowW d [] (fun f vs => PySem.call f vs) := by
  refine Att.attach_call hn hdf fun w s0 s1 mg mb fa o pm cd doc a vs ns G Y ho hd hcd hmg hobj hints hlen hg => ?_
  have KX := hY w _ Y
  obtain ⟨fd, hb, hF⟩ := F w mg fa _ KX G.T.g hmg
  exact law_callG KX G.T.g G.T.b G.T.builtins G.T.nolimit hg hobj hints (Nat.le_trans hlen hn2) hr hF hb (fun H hS => hsp w H a ns hlen hS)
end My

set_option Elab.async false
set_option linter.all false
set_option maxRecDepth 100000
set_option maxHeartbeats 4000000
namespace My
open PySem L2
/-! ### things as trees -/
def base (H : Hp) (T : V → List PyData → Prop) (v : V) : PyData → Prop
  | .none => v = .non
  | .bool b => v = .bl b
  | .int i => v = .int i
  | .str x => v = .str x
  | .list _ => ∃ a xs, v = .ref a ∧ H a = some (.lst xs)
  | .dict _ => ∃ a, v = .ref a ∧ H a = some (.dK [])
  | .tuple ds => T v ds
/-- v is the tree d, tuples at most n within one another; of a list and a dict only that they are such -/
def Rep (H : Hp) : Nat → V → PyData → Prop
  | 0 => base H fun _ _ => False
  | n + 1 => base H fun v ds => ∃ a xs, v = .ref a ∧ H a = some (.tup xs) ∧ Paired (Rep H n) xs ds
theorem base_mono {H H' : Hp} {T T' : V → List PyData → Prop} {v : V} {d : PyData} (hl : ∀ a xs, H a = some (.lst xs) → H' a = some (.lst xs)) (hd : ∀ a, H a = some (.dK []) → H' a = some (.dK [])) (ht : ∀ ds, T v ds → T' v ds)
    (h : base H T v d) : base H' T' v d := by
  cases d with
  | none => exact h
  | bool b => exact h
  | int i => exact h
  | str x => exact h
  | list ds =>
    obtain ⟨a, xs, e, q⟩ := h
    exact ⟨a, xs, e, hl a xs q⟩
  | dict kvs =>
    obtain ⟨a, e, q⟩ := h
    exact ⟨a, e, hd a q⟩
  | tuple ds => exact ht ds h
theorem Rep.mono {H : Hp} : ∀ {n m : Nat} {v : V} {d : PyData}, n ≤ m → Rep H n v d → Rep H m v d
  | 0, 0, _, _, _, h => h
  | 0, m + 1, _, _, _, h => base_mono (fun _ _ q => q) (fun _ q => q) (fun _ z => z.elim) h
  | n + 1, 0, _, _, h, _ => absurd h (by omega)
  | n + 1, m + 1, v, d, hm, h => base_mono (fun _ _ q => q) (fun _ q => q) (fun ds ⟨a, xs, e, q, p⟩ => ⟨a, xs, e, q, Paired.mapP p fun _ _ z => Rep.mono (by omega) z⟩) h
/-- all but what stands at d is kept -/
def Kp (d : Addr) (H H' : Hp) : Prop := ∀ c o, H c = some o → c ≠ d → H' c = some o
theorem Kp.refl (d : Addr) (H : Hp) : Kp d H H := fun _ _ e _ => e
theorem Kp.trans {d : Addr} {H H1 H2 : Hp} (a : Kp d H H1) (b : Kp d H1 H2) : Kp d H H2 := fun c o e n => b c o (a c o e n) n
theorem Kp.of {d : Addr} {H H' : Hp} (s : Same H H') : Kp d H H' := fun c o e _ => s c o e
theorem Rep.keep {H H' : Hp} {d : Addr} {kvs : List (Key × V)} (hd : H d = some (.dK kvs)) (hne : kvs ≠ []) (k : Kp d H H') : ∀ {n : Nat} {v : V} {x : PyData}, Rep H n v x → Rep H' n v x := by
  have kl : ∀ a xs, H a = some (.lst xs) → H' a = some (.lst xs) := fun a xs e => k a _ e (ne_of e hd (by intro z; cases z))
  have kd : ∀ a, H a = some (.dK []) → H' a = some (.dK []) := fun a e => k a _ e (ne_of e hd (by intro z; exact hne (HO.dK.inj z).symm))
  intro n
  induction n with
  | zero =>
    intro v x h
    exact base_mono kl kd (fun _ z => z) h
  | succ n ih =>
    intro v x h
    exact base_mono kl kd (fun ds ⟨a, xs, e, q, p⟩ => ⟨a, xs, e, k a _ q (ne_of q hd (by intro z; cases z)), Paired.mapP p fun _ _ z => ih z⟩) h
theorem Rep.same {H H' : Hp} (s : Same H H') : ∀ {n : Nat} {v : V} {x : PyData}, Rep H n v x → Rep H' n v x := by
  intro n
  induction n with
  | zero =>
    intro v x h
    exact base_mono (fun _ _ e => s _ _ e) (fun _ e => s _ _ e) (fun _ z => z) h
  | succ n ih =>
    intro v x h
    exact base_mono (fun _ _ e => s _ _ e) (fun _ e => s _ _ e) (fun ds ⟨a, xs, e, q, p⟩ => ⟨a, xs, e, s _ _ q, Paired.mapP p fun _ _ z => ih z⟩) h
/-! ### sizes -/
mutual
def szD : PyData → Nat
  | .tuple ds => 1 + szL ds
  | .str x => 1 + x.length
  | .none => 1
  | .bool _ => 1
  | .int _ => 1
  | .list _ => 1
  | .dict _ => 1
def szL : List PyData → Nat
  | [] => 0
  | d :: ds => szD d + szL ds
end
theorem szD_pos (d : PyData) : 1 ≤ szD d := by
  cases d <;> simp [szD] <;> omega
theorem szL_app : ∀ (xs ys : List PyData), szL (xs ++ ys) = szL xs + szL ys
  | [], ys => by simp [szL]
  | x :: xs, ys => by
    rw [List.cons_append, szL, szL, szL_app xs ys]; omega
theorem szL_len : ∀ xs : List PyData, xs.length ≤ szL xs
  | [] => Nat.le_refl _
  | x :: xs => by
    have h1 := szL_len xs
    have h2 := szD_pos x
    rw [List.length_cons, szL]; omega
theorem szL_get : ∀ {xs : List PyData} {i : Nat} {d : PyData}, xs[i]? = some d → szD d ≤ szL xs
  | [], _, _, e => by simp at e
  | x :: xs, 0, d, e => by
    simp at e
    subst e
    rw [szL]; omega
  | x :: xs, i + 1, d, e => by
    have h := szL_get (xs := xs) (i := i) (d := d) (by simpa using e)
    rw [szL]; omega
theorem szL_td : ∀ (xs : List PyData) (i : Nat), szL (xs.take i) + szL (xs.drop i) = szL xs := fun xs i => by
  rw [← szL_app, List.take_append_drop]
theorem szL_rev : ∀ xs : List PyData, szL xs.reverse = szL xs
  | [] => rfl
  | x :: xs => by
    rw [List.reverse_cons, szL_app, szL_rev xs, szL, szL, szL]; omega
theorem szL_rep (d : PyData) : ∀ k : Nat, szL (List.replicate k d) = k * szD d
  | 0 => by simp [szL]
  | k + 1 => by
    rw [List.replicate_succ, szL, szL_rep d k, Nat.succ_mul]; omega
/-! ### words and worths, as both sides tell them -/
def letters : List Nat := (Str.ofString "abcdefghijklmnopqrstuvwxyz").cps.toList
def isWd (x : Str) : Bool := decide (1 ≤ x.length ∧ x.length ≤ 8) && x.cps.toList.all fun c => decide (c ∈ letters)
def leafW : PyData → Bool
  | .none => true
  | .int i => decide (-1000000000 ≤ i ∧ i ≤ 1000000000)
  | .str x => isWd x
  | _ => false
def isW : Nat → PyData → Bool
  | 0, .tuple _ => false
  | n + 1, .tuple ds => decide (ds.length ≤ 20) && ds.all (isW n)
  | _, d => leafW d
theorem isW_leaf {n : Nat} {d : PyData} (h : ∀ ds, d ≠ .tuple ds) : isW n d = leafW d := by
  cases n <;> cases d <;> first | rfl | exact absurd rfl (h _)
/-! ### texts -/
def leafT : PyData → Str
  | .none => "-"
  | .int i => toString i
  | .str x => x
  | _ => ""
def shW : Nat → PyData → Str
  | n + 1, .tuple ds => Txt.join " " ((("<" : Str) :: ds.map (shW n)) ++ [(">" : Str)])
  | _, d => leafT d
theorem shW_leaf {n : Nat} {d : PyData} (h : ∀ ds, d ≠ .tuple ds) : shW n d = leafT d := by
  cases n <;> cases d <;> first | rfl | exact absurd rfl (h _)
/-! ### two unlike worths have unlike texts -/
open TL in
theorem joinL_app (S : List Nat) : ∀ {ps qs : List (List Nat)}, ps ≠ [] → qs ≠ [] → joinL S (ps ++ qs) = joinL S ps ++ (S ++ joinL S qs)
  | [], _, h, _ => absurd rfl h
  | [p], [], _, h => absurd rfl h
  | [p], q :: r, _, _ => rfl
  | p :: p2 :: ps, qs, _, h => by
    show p ++ (S ++ joinL S ((p2 :: ps) ++ qs)) = (p ++ (S ++ joinL S (p2 :: ps))) ++ (S ++ joinL S qs)
    rw [joinL_app S (by simp) h]
    simp [List.append_assoc]
open TL in
theorem joinL_flat (S : List Nat) : ∀ {pss : List (List (List Nat))}, (∀ ps ∈ pss, ps ≠ []) → joinL S (pss.map (joinL S)) = joinL S pss.flatten
  | [], _ => rfl
  | [ps], _ => by simp [joinL]
  | ps :: qs :: r, h => by
    have h1 : ps ≠ [] := h ps (List.mem_cons_self ..)
    have h2 : qs ≠ [] := h qs (by simp)
    have h3 : (qs :: r).flatten ≠ [] := by
      rw [List.flatten_cons]
      intro z
      exact h2 (List.append_eq_nil_iff.mp z).1
    show joinL S ps ++ (S ++ joinL S ((qs :: r).map (joinL S))) = joinL S (ps :: qs :: r).flatten
    rw [joinL_flat S (fun z hz => h z (List.mem_cons_of_mem _ hz)), show (ps :: qs :: r).flatten = ps ++ (qs :: r).flatten from rfl, joinL_app S h1 h3]
def tkL : Nat → PyData → List (List Nat)
  | n + 1, .tuple ds => [60] :: ((ds.map (tkL n)).flatten ++ [[62]])
  | _, d => [TL.tl (leafT d)]
theorem tkL_leaf {n : Nat} {d : PyData} (h : ∀ ds, d ≠ .tuple ds) : tkL n d = [TL.tl (leafT d)] := by
  cases n <;> cases d <;> first | rfl | exact absurd rfl (h _)
theorem tkL_ne (n : Nat) (d : PyData) : tkL n d ≠ [] := by
  cases n <;> cases d <;> simp [tkL]
theorem tl_shW : ∀ (n : Nat) (d : PyData), TL.tl (shW n d) = TL.joinL [32] (tkL n d)
  | 0, d => by cases d <;> rfl
  | n + 1, .tuple ds => by
    show TL.tl (Txt.join " " ((("<" : Str) :: ds.map (shW n)) ++ [(">" : Str)])) = TL.joinL [32] ([60] :: ((ds.map (tkL n)).flatten ++ [[62]]))
    rw [TL.join_eq, TL.tl_join, show TL.tl " " = [32] by decide +kernel]
    have e1 : ((("<" : Str) :: ds.map (shW n)) ++ [(">" : Str)]).map TL.tl = ([[[60]]] ++ ds.map (tkL n) ++ [[[62]]]).map (TL.joinL [32]) := by
      rw [List.map_append, List.map_cons, List.map_map, List.map_append, List.map_append, List.map_map]
      have e2 : ds.map (TL.tl ∘ shW n) = ds.map (TL.joinL [32] ∘ tkL n) := List.map_congr_left fun d _ => tl_shW n d
      rw [e2, show TL.tl ("<" : Str) = [60] by decide +kernel, show [(">" : Str)].map TL.tl = [[62]] by decide +kernel]
      rfl
    rw [e1, joinL_flat [32] (fun ps hp => ?_)]
    · simp [List.flatten_append]
    · rcases List.mem_append.mp hp with hp | hp
      · rcases List.mem_append.mp hp with hp | hp
        · rw [List.mem_singleton.mp hp]; simp
        · obtain ⟨d, _, rfl⟩ := List.mem_map.mp hp
          exact tkL_ne n d
      · rw [List.mem_singleton.mp hp]; simp
  | n + 1, .none => rfl
  | n + 1, .bool _ => rfl
  | n + 1, .int _ => rfl
  | n + 1, .str _ => rfl
  | n + 1, .list _ => rfl
  | n + 1, .dict _ => rfl
theorem ofS_app (a b : String) : Str.ofString (a ++ b) = Str.ofString a ++ Str.ofString b := by
  apply TL.ext_tl
  rw [TL.tl_append]
  simp [TL.tl, Str.ofString_eq_toList]
theorem tl_int (i : Int) : TL.tl (leafT (.int i)) = if i < 0 then 45 :: TL.numL i.natAbs else TL.numL i.natAbs := by
  show TL.tl (Str.ofString (toString i)) = _
  cases i with
  | ofNat m =>
    rw [if_neg (by simp)]
    exact TL.tl_num m
  | negSucc m =>
    rw [if_pos (Int.negSucc_lt_zero m)]
    have h : toString (Int.negSucc m) = "-" ++ toString ((m + 1 : Nat) : Int) := rfl
    rw [h, ofS_app, TL.tl_append, TL.tl_num]
    rfl
theorem letters_lo : ∀ c ∈ letters, 97 ≤ c ∧ c ≤ 122 := by decide +kernel
theorem isWd_let {x : Str} (h : isWd x = true) : (∀ c ∈ TL.tl x, 97 ≤ c ∧ c ≤ 122) ∧ TL.tl x ≠ [] ∧ x.length ≤ 8 := by
  unfold isWd at h
  rw [Bool.and_eq_true, decide_eq_true_eq, List.all_eq_true] at h
  obtain ⟨⟨h1, h2⟩, h3⟩ := h
  refine ⟨fun c hc => letters_lo c (of_decide_eq_true (h3 c hc)), fun z => ?_, h2⟩
  rw [TL.len_tl, z] at h1
  exact absurd h1 (by decide)
/-- the sign of a leaf that is no tuple: its kind is seen at its first code -/
theorem leaf_inj {d e : PyData} (hd : leafW d = true) (he : leafW e = true) (h : TL.tl (leafT d) = TL.tl (leafT e)) : d = e := by
  have digs : ∀ (i : Int) (c : Nat), c ∈ TL.tl (leafT (.int i)) → c = 45 ∨ (48 ≤ c ∧ c ≤ 57) := by
    intro i c hc
    rw [tl_int] at hc
    have dg := TL.numL_digits i.natAbs
    split at hc
    · rcases List.mem_cons.mp hc with z | z
      · exact .inl z
      · exact .inr (dg c z)
    · exact .inr (dg c hc)
  have int_ne : ∀ i : Int, TL.tl (leafT (.int i)) ≠ [] ∧ TL.tl (leafT (.int i)) ≠ [45] := by
    intro i
    rw [tl_int]
    have n0 := TL.numL_ne i.natAbs
    split
    · refine ⟨by simp, fun z => n0 ?_⟩
      exact (List.cons.inj z).2
    · refine ⟨n0, fun z => ?_⟩
      have := TL.numL_digits i.natAbs 45 (by rw [z]; simp)
      omega
  have none_t : TL.tl (leafT .none) = [45] := by decide +kernel
  cases d with
  | none =>
    cases e with
    | none => rfl
    | int i => exact absurd (h.symm.trans none_t) (int_ne i).2
    | str x =>
      have hx := (isWd_let he).1
      have : (45 : Nat) ∈ TL.tl x := by
        rw [show TL.tl x = [45] from h.symm.trans none_t]; simp
      exact absurd (hx 45 this).1 (by decide)
    | bool b => exact absurd (show false = true from he) Bool.false_ne_true
    | list l => exact absurd (show false = true from he) Bool.false_ne_true
    | tuple l => exact absurd (show false = true from he) Bool.false_ne_true
    | dict l => exact absurd (show false = true from he) Bool.false_ne_true
  | int i =>
    cases e with
    | none => exact absurd (h.trans none_t) (int_ne i).2
    | int j =>
      rw [tl_int, tl_int] at h
      have ni := TL.numL_digits i.natAbs
      have nj := TL.numL_digits j.natAbs
      by_cases hi : i < 0 <;> by_cases hj : j < 0
      · rw [if_pos hi, if_pos hj] at h
        have := TL.numL_inj (List.cons.inj h).2
        have e : i = j := by omega
        rw [e]
      · rw [if_pos hi, if_neg hj] at h
        have := nj 45 (by rw [← h]; simp)
        omega
      · rw [if_neg hi, if_pos hj] at h
        have := ni 45 (by rw [h]; simp)
        omega
      · rw [if_neg hi, if_neg hj] at h
        have := TL.numL_inj h
        have e : i = j := by omega
        rw [e]
    | str x =>
      have hx := (isWd_let he).1
      have hn := (isWd_let he).2.1
      obtain ⟨c, r, hc⟩ := List.exists_cons_of_ne_nil hn
      have m1 : c ∈ TL.tl x := by rw [hc]; simp
      have m2 : c ∈ TL.tl (leafT (.int i)) := by
        rw [h]; exact m1
      have := hx c m1
      have := digs i c m2
      omega
    | bool b => exact absurd (show false = true from he) Bool.false_ne_true
    | list l => exact absurd (show false = true from he) Bool.false_ne_true
    | tuple l => exact absurd (show false = true from he) Bool.false_ne_true
    | dict l => exact absurd (show false = true from he) Bool.false_ne_true
  | str x =>
    have hx := (isWd_let hd).1
    have hn := (isWd_let hd).2.1
    obtain ⟨c, r, hc⟩ := List.exists_cons_of_ne_nil hn
    have m1 : c ∈ TL.tl x := by rw [hc]; simp
    cases e with
    | none =>
      have : (45 : Nat) ∈ TL.tl x := by
        rw [show TL.tl x = [45] from h.trans none_t]; simp
      exact absurd (hx 45 this).1 (by decide)
    | int j =>
      have m2 : c ∈ TL.tl (leafT (.int j)) := by
        rw [← h]; exact m1
      have := hx c m1
      have := digs j c m2
      omega
    | str y => rw [TL.ext_tl (show TL.tl x = TL.tl y from h)]
    | bool b => exact absurd (show false = true from he) Bool.false_ne_true
    | list l => exact absurd (show false = true from he) Bool.false_ne_true
    | tuple l => exact absurd (show false = true from he) Bool.false_ne_true
    | dict l => exact absurd (show false = true from he) Bool.false_ne_true
  | bool b => exact absurd (show false = true from hd) Bool.false_ne_true
  | list l => exact absurd (show false = true from hd) Bool.false_ne_true
  | tuple l => exact absurd (show false = true from hd) Bool.false_ne_true
  | dict l => exact absurd (show false = true from hd) Bool.false_ne_true
/-- no leaf's sign is a bracket, none has a blank -/
theorem leaf_no {d : PyData} (hd : leafW d = true) : TL.tl (leafT d) ≠ [60] ∧ TL.tl (leafT d) ≠ [62] ∧ (32 : Nat) ∉ TL.tl (leafT d) := by
  have key : ∀ c ∈ TL.tl (leafT d), c = 45 ∨ (48 ≤ c ∧ c ≤ 57) ∨ (97 ≤ c ∧ c ≤ 122) := by
    cases d with
    | none =>
      intro c hc
      have : TL.tl (leafT .none) = [45] := by decide +kernel
      rw [this] at hc
      exact .inl (List.mem_singleton.mp hc)
    | int i =>
      intro c hc
      rw [tl_int] at hc
      have dg := TL.numL_digits i.natAbs
      split at hc
      · rcases List.mem_cons.mp hc with z | z
        · exact .inl z
        · exact .inr (.inl (dg c z))
      · exact .inr (.inl (dg c hc))
    | str x =>
      intro c hc
      exact .inr (.inr ((isWd_let hd).1 c hc))
    | bool b => exact absurd (show false = true from hd) Bool.false_ne_true
    | list l => exact absurd (show false = true from hd) Bool.false_ne_true
    | tuple l => exact absurd (show false = true from hd) Bool.false_ne_true
    | dict l => exact absurd (show false = true from hd) Bool.false_ne_true
  refine ⟨fun z => ?_, fun z => ?_, fun z => ?_⟩
  · have := key 60 (by rw [z]; simp)
    omega
  · have := key 62 (by rw [z]; simp)
    omega
  · have := key 32 z
    omega
theorem isW_tup {n : Nat} {ds : List PyData} (h : isW n (.tuple ds) = true) : ∃ m, n = m + 1 ∧ ds.length ≤ 20 ∧ ∀ d ∈ ds, isW m d = true := by
  cases n with
  | zero => exact absurd h (by simp [isW])
  | succ m =>
    rw [isW, Bool.and_eq_true, decide_eq_true_eq, List.all_eq_true] at h
    exact ⟨m, rfl, h.1, h.2⟩
theorem notTup {d : PyData} : (∃ ds, d = .tuple ds) ∨ ∀ ds, d ≠ .tuple ds := by
  cases d with
  | tuple ds => exact .inl ⟨ds, rfl⟩
  | _ => exact .inr fun ds z => by cases z
theorem tk_pre : ∀ (n : Nat) {d e : PyData} {r r' : List (List Nat)}, isW n d = true → isW n e = true → tkL n d ++ r = tkL n e ++ r' → d = e ∧ r = r' := by
  intro n
  induction n with
  | zero =>
    intro d e r r' hd he h
    have nd : ∀ ds, d ≠ .tuple ds := fun ds z => by rw [z] at hd; exact absurd hd (by simp [isW])
    have ne : ∀ ds, e ≠ .tuple ds := fun ds z => by rw [z] at he; exact absurd he (by simp [isW])
    rw [isW_leaf nd] at hd
    rw [isW_leaf ne] at he
    rw [tkL_leaf nd, tkL_leaf ne] at h
    obtain ⟨h1, h2⟩ := List.cons.inj h
    exact ⟨leaf_inj hd he h1, h2⟩
  | succ n ih =>
    have lists : ∀ (ds es : List PyData) (r r' : List (List Nat)), (∀ d ∈ ds, isW n d = true) → (∀ e ∈ es, isW n e = true) → (ds.map (tkL n)).flatten ++ ([62] :: r) = (es.map (tkL n)).flatten ++ ([62] :: r') → ds = es ∧ r = r' := by
      have first : ∀ (d : PyData) (q : List (List Nat)) (t : List (List Nat)), isW n d = true → [62] :: t = tkL n d ++ q → False := by
        intro d q t hd h
        rcases @notTup d with ⟨ds, rfl⟩ | nd
        · obtain ⟨m, rfl, _, _⟩ := isW_tup hd
          rw [tkL] at h
          exact absurd (List.cons.inj h).1 (by decide)
        · rw [tkL_leaf nd] at h
          rw [isW_leaf nd] at hd
          exact (leaf_no hd).2.1 (List.cons.inj h).1.symm
      intro ds
      induction ds with
      | nil =>
        intro es r r' _ he h
        cases es with
        | nil => exact ⟨rfl, (List.cons.inj h).2⟩
        | cons e es =>
          rw [List.map_cons, List.flatten_cons, List.append_assoc] at h
          exact (first e _ _ (he e (List.mem_cons_self ..)) h).elim
      | cons d ds ihl =>
        intro es r r' hd he h
        cases es with
        | nil =>
          rw [List.map_cons, List.flatten_cons, List.append_assoc] at h
          exact (first d _ _ (hd d (List.mem_cons_self ..)) h.symm).elim
        | cons e es =>
          rw [List.map_cons, List.flatten_cons, List.append_assoc, List.map_cons, List.flatten_cons, List.append_assoc] at h
          obtain ⟨h1, h2⟩ := ih (hd d (List.mem_cons_self ..)) (he e (List.mem_cons_self ..)) h
          obtain ⟨h3, h4⟩ := ihl es r r' (fun z hz => hd z (List.mem_cons_of_mem _ hz)) (fun z hz => he z (List.mem_cons_of_mem _ hz)) h2
          exact ⟨by rw [h1, h3], h4⟩
    intro d e r r' hd he h
    rcases @notTup d with ⟨ds, rfl⟩ | nd
    · obtain ⟨m, em, _, kd⟩ := isW_tup hd
      cases em
      rcases @notTup e with ⟨es, rfl⟩ | ne
      · obtain ⟨m2, em2, _, ke⟩ := isW_tup he
        cases em2
        rw [tkL, tkL, List.cons_append, List.cons_append, List.append_assoc, List.append_assoc] at h
        obtain ⟨h1, h2⟩ := lists ds es r r' kd ke (List.cons.inj h).2
        exact ⟨by rw [h1], h2⟩
      · rw [tkL_leaf ne, tkL] at h
        rw [isW_leaf ne] at he
        exact ((leaf_no he).1 (List.cons.inj h).1.symm).elim
    · rcases @notTup e with ⟨es, rfl⟩ | ne
      · rw [tkL_leaf nd, tkL] at h
        rw [isW_leaf nd] at hd
        exact ((leaf_no hd).1 (List.cons.inj h).1).elim
      · rw [isW_leaf nd] at hd
        rw [isW_leaf ne] at he
        rw [tkL_leaf nd, tkL_leaf ne] at h
        obtain ⟨h1, h2⟩ := List.cons.inj h
        exact ⟨leaf_inj hd he h1, h2⟩
theorem tk_free : ∀ (n : Nat) {d : PyData}, isW n d = true → ∀ t ∈ tkL n d, (32 : Nat) ∉ t := by
  intro n
  induction n with
  | zero =>
    intro d hd t ht
    have nd : ∀ ds, d ≠ .tuple ds := fun ds z => by rw [z] at hd; exact absurd hd (by simp [isW])
    rw [isW_leaf nd] at hd
    rw [tkL_leaf nd] at ht
    rw [List.mem_singleton.mp ht]
    exact (leaf_no hd).2.2
  | succ n ih =>
    intro d hd t ht
    rcases @notTup d with ⟨ds, rfl⟩ | nd
    · obtain ⟨m, em, _, kd⟩ := isW_tup hd
      cases em
      rw [tkL] at ht
      rcases List.mem_cons.mp ht with z | z
      · rw [z]; decide
      · rcases List.mem_append.mp z with z | z
        · obtain ⟨l, hl, htl⟩ := List.mem_flatten.mp z
          obtain ⟨e, hee, rfl⟩ := List.mem_map.mp hl
          exact ih (kd e hee) t htl
        · rw [List.mem_singleton.mp z]; decide
    · rw [isW_leaf nd] at hd
      rw [tkL_leaf nd] at ht
      rw [List.mem_singleton.mp ht]
      exact (leaf_no hd).2.2
theorem shW_inj {n : Nat} {d e : PyData} (hd : isW n d = true) (he : isW n e = true) (h : shW n d = shW n e) : d = e := by
  have h1 : TL.joinL [32] (tkL n d) = TL.joinL [32] (tkL n e) := by
    rw [← tl_shW, ← tl_shW, h]
  have h2 := congrArg (TL.spl [32] 0 []) h1
  rw [TL.spl_join (tkL_ne n d) (tk_free n hd), TL.spl_join (tkL_ne n e) (tk_free n he)] at h2
  exact (tk_pre n (r := []) (r' := []) hd he (by rw [h2])).1
end My

set_option Elab.async false
set_option linter.all false
set_option maxRecDepth 100000
set_option maxHeartbeats 4000000
namespace My
open PySem L2
/-! ### how long a worth's text is, and its signs -/
def sumL : List (List Nat) → Nat
  | [] => 0
  | p :: ps => (p.length + 1) + sumL ps
theorem sumL_app : ∀ ps qs : List (List Nat), sumL (ps ++ qs) = sumL ps + sumL qs
  | [], qs => by simp [sumL]
  | p :: ps, qs => by
    rw [List.cons_append, sumL, sumL, sumL_app ps qs]; omega
theorem joinL_len : ∀ {ps : List (List Nat)}, ps ≠ [] → (TL.joinL [32] ps).length + 1 = sumL ps
  | [], h => absurd rfl h
  | [p], _ => by simp [TL.joinL, sumL]
  | p :: q :: r, _ => by
    have h := joinL_len (ps := q :: r) (by simp)
    show (p ++ ([32] ++ TL.joinL [32] (q :: r))).length + 1 = (p.length + 1) + sumL (q :: r)
    rw [List.length_append, List.length_append, ← h]
    simp only [List.length_cons, List.length_nil]
    omega
theorem joinL_mem {c : Nat} : ∀ {ps : List (List Nat)}, c ∈ TL.joinL [32] ps → c = 32 ∨ ∃ t ∈ ps, c ∈ t
  | [], h => by simp [TL.joinL] at h
  | [p], h => .inr ⟨p, by simp, h⟩
  | p :: q :: r, h => by
    rcases List.mem_append.mp (show c ∈ p ++ ([32] ++ TL.joinL [32] (q :: r)) from h) with z | z
    · exact .inr ⟨p, by simp, z⟩
    · rcases List.mem_append.mp z with z | z
      · exact .inl (List.mem_singleton.mp z)
      · rcases joinL_mem z with z | ⟨t, ht, hc⟩
        · exact .inl z
        · exact .inr ⟨t, List.mem_cons_of_mem _ ht, hc⟩
theorem leaf_len {d : PyData} (hd : leafW d = true) : (TL.tl (leafT d)).length + 1 ≤ 12 * szD d := by
  cases d with
  | none => decide +kernel
  | int i =>
    have h : -1000000000 ≤ i ∧ i ≤ 1000000000 := of_decide_eq_true hd
    rw [tl_int]
    have hn : (TL.numL i.natAbs).length ≤ 10 := TL.numL_len (by decide) (show i.natAbs < 10 ^ 10 by omega)
    split
    · rw [List.length_cons, szD]; omega
    · rw [szD]; omega
  | str x =>
    show (TL.tl x).length + 1 ≤ 12 * szD (.str x)
    rw [szD, TL.len_tl]; omega
  | bool b => exact absurd (show false = true from hd) Bool.false_ne_true
  | list l => exact absurd (show false = true from hd) Bool.false_ne_true
  | tuple l => exact absurd (show false = true from hd) Bool.false_ne_true
  | dict l => exact absurd (show false = true from hd) Bool.false_ne_true
theorem leaf_sign {d : PyData} (hd : leafW d = true) : ∀ c ∈ TL.tl (leafT d), c ≤ 122 := by
  cases d with
  | none =>
    intro c hc
    rw [show TL.tl (leafT .none) = [45] by decide +kernel] at hc
    rw [List.mem_singleton.mp hc]; decide
  | int i =>
    intro c hc
    rw [tl_int] at hc
    have dg := TL.numL_digits i.natAbs
    split at hc
    · rcases List.mem_cons.mp hc with z | z
      · omega
      · have := dg c z; omega
    · have := dg c hc; omega
  | str x => exact fun c hc => ((isWd_let hd).1 c hc).2
  | bool b => exact absurd (show false = true from hd) Bool.false_ne_true
  | list l => exact absurd (show false = true from hd) Bool.false_ne_true
  | tuple l => exact absurd (show false = true from hd) Bool.false_ne_true
  | dict l => exact absurd (show false = true from hd) Bool.false_ne_true
theorem tk_sum : ∀ (n : Nat) {d : PyData}, isW n d = true → sumL (tkL n d) ≤ 12 * szD d ∧ ∀ t ∈ tkL n d, ∀ c ∈ t, c ≤ 122 := by
  intro n
  induction n with
  | zero =>
    intro d hd
    have nd : ∀ ds, d ≠ .tuple ds := fun ds z => by rw [z] at hd; exact absurd hd (by simp [isW])
    rw [isW_leaf nd] at hd
    rw [tkL_leaf nd]
    refine ⟨by simp only [sumL]; have := leaf_len hd; omega, fun t ht => ?_⟩
    rw [List.mem_singleton.mp ht]
    exact leaf_sign hd
  | succ n ih =>
    intro d hd
    rcases @notTup d with ⟨ds, rfl⟩ | nd
    · obtain ⟨m, em, _, kd⟩ := isW_tup hd
      cases em
      have key : ∀ ds : List PyData, (∀ d ∈ ds, isW n d = true) → sumL (ds.map (tkL n)).flatten ≤ 12 * szL ds ∧ ∀ t ∈ (ds.map (tkL n)).flatten, ∀ c ∈ t, c ≤ 122 := by
        intro ds
        induction ds with
        | nil => exact fun _ => ⟨by simp [sumL], fun t ht => by simp at ht⟩
        | cons e es ihl =>
          intro h
          obtain ⟨h1, h2⟩ := ih (h e (List.mem_cons_self ..))
          obtain ⟨h3, h4⟩ := ihl fun z hz => h z (List.mem_cons_of_mem _ hz)
          rw [List.map_cons, List.flatten_cons]
          refine ⟨?_, fun t ht => ?_⟩
          · rw [sumL_app, szL]; omega
          · rcases List.mem_append.mp ht with z | z
            · exact h2 t z
            · exact h4 t z
      obtain ⟨h1, h2⟩ := key ds kd
      rw [tkL]
      refine ⟨?_, fun t ht => ?_⟩
      · rw [sumL, sumL_app, szD]
        simp only [sumL, List.length_cons, List.length_nil]
        omega
      · rcases List.mem_cons.mp ht with z | z
        · rw [z]; intro c hc; rw [List.mem_singleton.mp hc]; decide
        · rcases List.mem_append.mp z with z | z
          · exact h2 t z
          · rw [List.mem_singleton.mp z]; intro c hc; rw [List.mem_singleton.mp hc]; decide
    · rw [isW_leaf nd] at hd
      rw [tkL_leaf nd]
      refine ⟨by simp only [sumL]; have := leaf_len hd; omega, fun t ht => ?_⟩
      rw [List.mem_singleton.mp ht]
      exact leaf_sign hd
theorem shW_len {n : Nat} {d : PyData} (hd : isW n d = true) : (shW n d).length + 1 ≤ 12 * szD d := by
  rw [TL.len_tl, tl_shW, joinL_len (tkL_ne n d)]
  exact (tk_sum n hd).1
theorem shW_sign {n : Nat} {d : PyData} (hd : isW n d = true) : ∀ c ∈ TL.tl (shW n d), c ≤ 122 := by
  intro c hc
  rw [tl_shW] at hc
  rcases joinL_mem hc with z | ⟨t, ht, h⟩
  · omega
  · exact (tk_sum n hd).2 t ht c h
theorem shW_repr {n : Nat} {d : PyData} (hd : isW n d = true) (hs : szD d ≤ 40000) : (reprText (shW n d)).length ≤ sizeLine := by
  have h1 := StrLaws.reprText_len (shW n d) fun c hc => Nat.lt_of_le_of_lt (shW_sign hd c hc) (by decide)
  have h2 := shW_len hd
  rw [sizeLine_eq]
  omega
/-! ### worths that are alike -/
theorem eqv_w : ∀ (n : Nat) {d e : PyData}, isW n d = true → isW n e = true → (PyData.eqv d e = true ↔ d = e) := by
  have leaf : ∀ {d e : PyData}, leafW d = true → leafW e = true → (PyData.eqv d e = true ↔ d = e) := by
    intro d e hd he
    cases d <;> cases e <;> first | exact absurd (show false = true from hd) Bool.false_ne_true | exact absurd (show false = true from he) Bool.false_ne_true | simp [PyData.eqv]
  have mixed : ∀ {d : PyData} {ds : List PyData}, leafW d = true → ¬ (PyData.eqv d (.tuple ds) = true) ∧ ¬ (PyData.eqv (.tuple ds) d = true) := by
    intro d ds hd
    cases d <;> first | exact absurd (show false = true from hd) Bool.false_ne_true | simp [PyData.eqv]
  intro n
  induction n with
  | zero =>
    intro d e hd he
    have nd : ∀ ds, d ≠ .tuple ds := fun ds z => by rw [z] at hd; exact absurd hd (by simp [isW])
    have ne : ∀ ds, e ≠ .tuple ds := fun ds z => by rw [z] at he; exact absurd he (by simp [isW])
    rw [isW_leaf nd] at hd
    rw [isW_leaf ne] at he
    exact leaf hd he
  | succ n ih =>
    have lists : ∀ ds es : List PyData, (∀ d ∈ ds, isW n d = true) → (∀ e ∈ es, isW n e = true) → (PyData.eqvAll ds es = true ↔ ds = es) := by
      intro ds
      induction ds with
      | nil => intro es _ _; cases es <;> simp [PyData.eqvAll]
      | cons d ds ihl =>
        intro es hd he
        cases es with
        | nil => simp [PyData.eqvAll]
        | cons e es =>
          rw [PyData.eqvAll, Bool.and_eq_true, ih (hd d (List.mem_cons_self ..)) (he e (List.mem_cons_self ..)), ihl es (fun z hz => hd z (List.mem_cons_of_mem _ hz)) (fun z hz => he z (List.mem_cons_of_mem _ hz))]
          constructor
          · rintro ⟨rfl, rfl⟩; rfl
          · intro h; exact ⟨(List.cons.inj h).1, (List.cons.inj h).2⟩
    intro d e hd he
    rcases @notTup d with ⟨ds, rfl⟩ | nd
    · obtain ⟨m, em, _, kd⟩ := isW_tup hd
      cases em
      rcases @notTup e with ⟨es, rfl⟩ | ne
      · obtain ⟨m2, em2, _, ke⟩ := isW_tup he
        cases em2
        rw [PyData.eqv, lists ds es kd ke]
        constructor
        · rintro rfl; rfl
        · intro h; exact PyData.tuple.inj h
      · rw [isW_leaf ne] at he
        exact ⟨fun z => ((mixed he).2 z).elim, fun z => (ne ds z.symm).elim⟩
    · rcases @notTup e with ⟨es, rfl⟩ | ne
      · rw [isW_leaf nd] at hd
        exact ⟨fun z => ((mixed hd).1 z).elim, fun z => (nd es z).elim⟩
      · rw [isW_leaf nd] at hd
        rw [isW_leaf ne] at he
        exact leaf hd he
theorem lay_w : ∀ (n : Nat) {d : PyData}, isW n d = true → d.canLay0 = true ∧ d.depth ≤ n := by
  have leaf : ∀ {d : PyData}, leafW d = true → d.canLay0 = true ∧ d.depth = 0 := by
    intro d hd
    cases d with
    | none => exact ⟨rfl, by simp [PyData.depth]⟩
    | int i => exact ⟨rfl, by simp [PyData.depth]⟩
    | str x =>
      refine ⟨?_, by simp [PyData.depth]⟩
      show PyData.strOk x = true
      unfold PyData.strOk
      rw [Array.all_eq_true']
      intro c hc
      have := (isWd_let hd).1 c (Array.mem_toList_iff.mpr hc)
      exact decide_eq_true (by omega)
    | bool b => exact absurd (show false = true from hd) Bool.false_ne_true
    | list l => exact absurd (show false = true from hd) Bool.false_ne_true
    | tuple l => exact absurd (show false = true from hd) Bool.false_ne_true
    | dict l => exact absurd (show false = true from hd) Bool.false_ne_true
  intro n
  induction n with
  | zero =>
    intro d hd
    have nd : ∀ ds, d ≠ .tuple ds := fun ds z => by rw [z] at hd; exact absurd hd (by simp [isW])
    rw [isW_leaf nd] at hd
    exact ⟨(leaf hd).1, Nat.le_of_eq (leaf hd).2⟩
  | succ n ih =>
    intro d hd
    rcases @notTup d with ⟨ds, rfl⟩ | nd
    · obtain ⟨m, em, _, kd⟩ := isW_tup hd
      cases em
      have key : ∀ ds : List PyData, (∀ d ∈ ds, isW n d = true) → PyData.canLayAll0 ds = true ∧ PyData.depthAll ds ≤ n := by
        intro ds
        induction ds with
        | nil => exact fun _ => ⟨rfl, by simp [PyData.depthAll]⟩
        | cons e es ihl =>
          intro h
          obtain ⟨h1, h2⟩ := ih (h e (List.mem_cons_self ..))
          obtain ⟨h3, h4⟩ := ihl fun z hz => h z (List.mem_cons_of_mem _ hz)
          refine ⟨by rw [PyData.canLayAll0, h1, h3]; rfl, ?_⟩
          rw [PyData.depthAll]; omega
      obtain ⟨h1, h2⟩ := key ds kd
      exact ⟨by rw [PyData.canLay0]; exact h1, by rw [PyData.depth]; omega⟩
    · rw [isW_leaf nd] at hd
      exact ⟨(leaf hd).1, by rw [(leaf hd).2]; omega⟩
theorem shaped_w {n : Nat} {d : PyData} (h : isW n d = true) (hn : n ≤ 60) : SeqAt.shaped d = true := by
  unfold SeqAt.shaped
  rw [(lay_w n h).1, Bool.true_and]
  exact decide_eq_true (by have := (lay_w n h).2; omega)
theorem dp_w {K : PySem.W.Frag} {H : Hp} : ∀ (n : Nat) {m : Nat} {v : V} {d : PyData}, isW n d = true → Rep H m v d → Dp K H v d := by
  have leaf : ∀ {T : V → List PyData → Prop} {v : V} {d : PyData}, leafW d = true → base H T v d → Dp K H v d := by
    intro T v d hd h
    cases d with
    | none => rw [show v = .non from h]; exact .non
    | int i => rw [show v = .int i from h]; exact .int i
    | str x => rw [show v = .str x from h]; exact .str x
    | bool b => exact absurd (show false = true from hd) Bool.false_ne_true
    | list l => exact absurd (show false = true from hd) Bool.false_ne_true
    | tuple l => exact absurd (show false = true from hd) Bool.false_ne_true
    | dict l => exact absurd (show false = true from hd) Bool.false_ne_true
  have leafR : ∀ {m : Nat} {v : V} {d : PyData}, leafW d = true → Rep H m v d → Dp K H v d := by
    intro m v d hd h
    cases m with
    | zero => exact leaf hd h
    | succ m => exact leaf hd h
  intro n
  induction n with
  | zero =>
    intro m v d hd h
    have nd : ∀ ds, d ≠ .tuple ds := fun ds z => by rw [z] at hd; exact absurd hd (by simp [isW])
    rw [isW_leaf nd] at hd
    exact leafR hd h
  | succ n ih =>
    intro m v d hd h
    rcases @notTup d with ⟨ds, rfl⟩ | nd
    · obtain ⟨k, ek, h20, kd⟩ := isW_tup hd
      cases ek
      cases m with
      | zero => exact (show False from h).elim
      | succ m =>
        obtain ⟨a, xs, rfl, ha, hp⟩ := (show ∃ a xs, v = .ref a ∧ H a = some (.tup xs) ∧ Paired (Rep H m) xs ds from h)
        refine .tup (SqT.of ha) ?_
        clear ha h hd h20
        induction hp with
        | nil => exact .nil
        | cons h1 h2 ihp => exact .cons (ih (kd _ (List.mem_cons_self ..)) h1) (ihp fun z hz => kd z (List.mem_cons_of_mem _ hz))
    · rw [isW_leaf nd] at hd
      exact leafR hd h
end My

set_option Elab.async false
set_option linter.all false
set_option maxRecDepth 100000
set_option maxHeartbeats 4000000
namespace My
open PySem PySem.W
open PySem.Sem (wp)
section
variable {prog : Program} {w : World} {z TI TO i1 i2 : Addr} {fp1 fp2 : List Addr} {n1 n2 : Nat} {P1 P2 : Nat → Value → Prop} {St1 St2 : Nat → Heap → Prop}
/-- one turn of a zip whose first pair is still held by somebody -/
theorem held_item {A : Around} {E : Value → Shared → Prop} {s : Shared} {i : Nat} {T : Addr} {f : Bool} {oT : Obj} {Q : Option Value → Shared → Prop} (S : ZipSep2 z TI TO i1 i2 fp1 fp2) (D1 : ∀ A : Around, A.handled = none → Draws prog w A i1 fp1 n1 P1 St1) (D2 : ∀ A : Around, A.handled = none → Draws prog w A i2 fp2 n2 P2 St2) (hA : A.handled = none)
    (hz : IsZipHeld s.heap z TI TO T f) (hT : s.heap.get? T = some oT) (hTI : IsTupOf2 s.heap TI (.ref i1) (.ref i2)) (st1 : St1 i s.heap) (st2 : St2 i s.heap) (hlt1 : i < n1) (hlt2 : i < n2)
    (hQ : ∀ x1 x2 h' tk, P1 i x1 → P2 i x2 → IsZipHeld h' z TI TO T true → St1 (i + 1) h' → St2 (i + 1) h' → IsTupOf2 h' s.heap.objs.size x1 x2 → h'.objs.size = s.heap.objs.size + 1 →
      (∀ c o, c ≠ z → c ≠ i1 → c ≠ i2 → s.heap.get? c = some o → h'.get? c = some o) → Q (some (.ref s.heap.objs.size)) { s with heap := h', toks := tk }) :
    wpAny (model prog w) A (pyNext (.ref z)) Q E s := by
  have hTy : s.TypeIs (.ref z) "zip" := ⟨_, hz, rfl⟩
  unfold pyNext
  refine wpAny_bind (wpAny_attempt (wpAny_callSpecial?_slot (name := Str.ofString "__next__") hTy F.slot_zip_next (wpAny_call_entry F.slot_zip_next hTy F.entry_zip_next ?_ (F.args_zip_next_1 _))))
  have d1 := D1 A.in1 hA
  have d2 := D2 A.in1 hA
  obtain ⟨hp, g, d, tk0, os⟩ := s
  show wpAny _ _ (field (.ref z) 2 >>= _) _ _ _
  refine wpAny_bind (wpAny_field hz rfl (x := .bool false) rfl ?_)
  show wpAny _ _ (field (.ref z) 3 >>= _) _ _ _
  refine wpAny_bind (wpAny_field hz rfl (x := .ref TI) rfl (wpAny_bind (wpAny_seqItems hTI rfl ?_)))
  show wpAny _ _ (Builtin.SmallTypes.ownedTupleIsFree (.ref z) >>= _) _ _ _
  refine wpAny_bind (wpAny_tupleHeld_zip (f := f) hz hT fun g0 hz0 hs0 => ?_)
  replace hs0 : Heap.SameBut z hp g0 := hs0
  simp only [Bool.false_eq_true, if_false]
  refine wpAny_bind ?_
  rw [← Array.forIn_toList]
  simp only [List.forIn_cons, List.forIn_nil]
  refine wpAny_bind (wpAny_bind (wpAny_holding ?_))
  show wpAny _ _ (Builtin.SmallTypes.nextOf (.ref i1) >>= _) _ _ ⟨g0, g, d, tk0, os⟩
  refine wpAny_bind (d1.item i ⟨g0, g, d, tk0, os⟩ _ _ hlt1 (d1.over st1 hs0 S.zf1) fun x1 p1 tk1 hx1 sn1 hp1 => wpAny_pure (wpAny_pure ?_))
  replace hp1 : Heap.SameBut i1 g0 p1 := hp1
  refine wpAny_bind (wpAny_bind (wpAny_holding ?_))
  show wpAny _ _ (Builtin.SmallTypes.nextOf (.ref i2) >>= _) _ _ ⟨p1, g, d, tk1, os⟩
  refine wpAny_bind (d2.item i ⟨p1, g, d, tk1, os⟩ _ _ hlt2 (d2.over (d2.over st2 hs0 S.zf2) hp1 S.sep1_2) fun x2 p2 tk2 hx2 sn2 hp2 => wpAny_pure (wpAny_pure (wpAny_pure ?_)))
  replace hp2 : Heap.SameBut i2 p1 p2 := hp2
  show wpAny _ _ (newTuple [x1, x2] >>= _) _ _ ⟨p2, g, d, tk2, os⟩
  refine wpAny_bind (wpAny_newTuple (wpAny_pure ⟨_, rfl, wpAny_pure ?_⟩))
  have hsz : p2.objs.size = hp.objs.size := by rw [hp2.1, hp1.1, hs0.1]
  show Q (some (.ref p2.objs.size)) ⟨p2.push { cls := .type "tuple", data := .seq #[x1, x2] }, g, d, tk2, os⟩
  have up : ∀ c o, p2.get? c = some o → (p2.push { cls := .type "tuple", data := .seq #[x1, x2] }).get? c = some o := fun c o e => Heap.get?_push_of_some _ e
  have hpair : IsTupOf2 (p2.push { cls := .type "tuple", data := .seq #[x1, x2] }) p2.objs.size x1 x2 := Heap.get?_push_size _ rfl
  have hnew : (p2.push { cls := .type "tuple", data := .seq #[x1, x2] }).objs.size = p2.objs.size + 1 := Heap.size_push ..
  have k1 := hQ x1 x2 (p2.push { cls := .type "tuple", data := .seq #[x1, x2] }) tk2 hx1 hx2 (up _ _ (hp2.extBut _ _ S.zi2 (hp1.extBut _ _ S.zi1 hz0)))
    (d1.frame _ _ _ (d1.over sn1 hp2 S.sep2_1) fun b _ o e => up b o e) (d2.frame _ _ _ sn2 fun b _ o e => up b o e)
  rw [hsz] at hpair hnew ⊢
  exact k1 hpair hnew fun c o c1 c2 c3 e => up c o (hp2.extBut _ _ c3 (hp1.extBut _ _ c2 (hs0.extBut _ _ c1 e)))
theorem held_end {A : Around} {E : Value → Shared → Prop} {s : Shared} {i : Nat} {T : Addr} {f : Bool} {oT : Obj} {Q : Option Value → Shared → Prop} (S : ZipSep2 z TI TO i1 i2 fp1 fp2) (D1 : ∀ A : Around, A.handled = none → Draws prog w A i1 fp1 n1 P1 St1) (D2 : ∀ A : Around, A.handled = none → Draws prog w A i2 fp2 n2 P2 St2) (hA : A.handled = none)
    (hz : IsZipHeld s.heap z TI TO T f) (hT : s.heap.get? T = some oT) (hTI : IsTupOf2 s.heap TI (.ref i1) (.ref i2)) (st1 : St1 i s.heap) (st2 : St2 i s.heap) (hle1 : i ≤ n1) (hle2 : i ≤ n2) (hend : i = n1 ∨ i = n2)
    (hQ : ∀ h' tk, (∀ c o, c ≠ z → c ≠ i1 → c ≠ i2 → s.heap.get? c = some o → h'.get? c = some o) → Q none { s with heap := h', toks := tk }) :
    wpAny (model prog w) A (pyNext (.ref z)) Q E s := by
  have hTy : s.TypeIs (.ref z) "zip" := ⟨_, hz, rfl⟩
  have d1 := D1 A.in1 hA
  have d2 := D2 A.in1 hA
  unfold pyNext
  obtain ⟨hp, g, d, tk0, os⟩ := s
  have stop : ∀ (q : Heap) (tk : Tok) (e : Addr), (∀ c o, c ≠ z → c ≠ i1 → c ≠ i2 → hp.get? c = some o → q.get? c = some o) → (∃ o, q.get? e = some o ∧ o.cls = .type "StopIteration") →
      wpAny (model prog w) A (isInstance (.ref e) (.type "StopIteration") >>= fun b => if b = true then pure none else throw (.ref e)) Q E ⟨q, g, d, tk, os⟩ := by
    rintro q tk e hk ⟨o, ho, hc⟩
    exact wpAny_bind (wpAny_isInstance (T := "StopIteration") (b := true) ⟨o, ho, hc⟩ isSubtype_stop (wpAny_pure (hQ q tk hk)))
  refine wpAny_bind (wpAny_attempt (wpAny_callSpecial?_slot (name := Str.ofString "__next__") hTy F.slot_zip_next (wpAny_call_entry F.slot_zip_next hTy F.entry_zip_next ?_ (F.args_zip_next_1 _))))
  show wpAny _ _ (field (.ref z) 2 >>= _) _ _ _
  refine wpAny_bind (wpAny_field hz rfl (x := .bool false) rfl ?_)
  show wpAny _ _ (field (.ref z) 3 >>= _) _ _ _
  refine wpAny_bind (wpAny_field hz rfl (x := .ref TI) rfl (wpAny_bind (wpAny_seqItems hTI rfl ?_)))
  show wpAny _ _ (Builtin.SmallTypes.ownedTupleIsFree (.ref z) >>= _) _ _ _
  refine wpAny_bind (wpAny_tupleHeld_zip (f := f) hz hT fun g0 hz0 hs0 => ?_)
  replace hs0 : Heap.SameBut z hp g0 := hs0
  simp only [Bool.false_eq_true, if_false]
  refine wpAny_bind ?_
  rw [← Array.forIn_toList]
  simp only [List.forIn_cons, List.forIn_nil]
  by_cases h1 : i < n1
  · refine wpAny_bind (wpAny_bind (wpAny_holding ?_))
    show wpAny _ _ (Builtin.SmallTypes.nextOf (.ref i1) >>= _) _ _ ⟨g0, g, d, tk0, os⟩
    refine wpAny_bind (d1.item i ⟨g0, g, d, tk0, os⟩ _ _ h1 (d1.over st1 hs0 S.zf1) fun x1 p1 tk1 hx1 sn1 hp1 => wpAny_pure (wpAny_pure ?_))
    replace hp1 : Heap.SameBut i1 g0 p1 := hp1
    have h2 : i = n2 := by omega
    refine wpAny_bind (wpAny_bind (wpAny_holding ?_))
    show wpAny _ _ (Builtin.SmallTypes.nextOf (.ref i2) >>= _) _ _ ⟨p1, g, d, tk1, os⟩
    refine wpAny_bind (d2.done ⟨p1, g, d, tk1, os⟩ _ _ (by rw [← h2]; exact d2.over (d2.over st2 hs0 S.zf2) hp1 S.sep1_2) fun q e hq he => ?_)
    exact stop q tk1 e (fun c o c1 c2 c3 x => hq _ _ c3 (hp1.extBut _ _ c2 (hs0.extBut _ _ c1 x))) he
  · have h2 : i = n1 := by omega
    refine wpAny_bind (wpAny_bind (wpAny_holding ?_))
    show wpAny _ _ (Builtin.SmallTypes.nextOf (.ref i1) >>= _) _ _ ⟨g0, g, d, tk0, os⟩
    refine wpAny_bind (d1.done ⟨g0, g, d, tk0, os⟩ _ _ (by rw [← h2]; exact d1.over st1 hs0 S.zf1) fun q e hq he => ?_)
    exact stop q tk0 e (fun c o c1 c2 c3 x => hq _ _ c2 (hs0.extBut _ _ c1 x)) he
theorem big {a b N : Nat} (h1 : a < N) (h2 : N ≤ b) : b ≠ a := Nat.ne_of_gt (Nat.lt_of_lt_of_le h1 h2)
/-- how the zip itself stands: no pair is out, or the first one is still held -/
def ZAt (z TI TO N0 : Nat) (i : Nat) (h : Heap) : Prop := (i = 0 ∧ IsZip h z TI TO .none ∧ ∃ a b, IsTupOf2 h TO a b) ∨ (∃ T f oT, N0 ≤ T ∧ h.get? T = some oT ∧ IsZipHeld h z TI TO T f)
def Made (P1 P2 : Nat → Value → Prop) (N0 : Nat) (h : Heap) (acc : Array Value) : Prop := (∀ j v, acc[j]? = some v → ∃ b x1 x2, v = .ref b ∧ N0 ≤ b ∧ P1 j x1 ∧ P2 j x2 ∧ IsTupOf2 h b x1 x2) ∧ ∀ (j k : Nat) (b c : Addr), j < k → acc[j]? = some (Value.ref b) → acc[k]? = some (Value.ref c) → b < c
theorem ext_zip {A : Around} {R : Result → Shared → Prop} (S : ZipSep2 z TI TO i1 i2 fp1 fp2) (D1 : ∀ A : Around, A.handled = none → Draws prog w A i1 fp1 n1 P1 St1) (D2 : ∀ A : Around, A.handled = none → Draws prog w A i2 fp2 n2 P2 St2) (hA : A.handled = none) (hn : min n1 n2 ≤ sizeLine)
    {L N0 : Addr} (Lz : L ≠ z) (LTI : L ≠ TI) (LTO : L ≠ TO) (L1 : L ∉ fp1) (L2 : L ∉ fp2) (zN : z < N0) (TIN : TI < N0) (TON : TO < N0) (i1N : i1 < N0) (i2N : i2 < N0) (LN : L < N0) (res : Value) :
    ∀ (k i : Nat) (s : Shared) (acc : Array Value) (c : Nat), min n1 n2 - i = k → i ≤ min n1 n2 → N0 ≤ s.heap.objs.size → ZAt z TI TO N0 i s.heap → IsTupOf2 s.heap TI (.ref i1) (.ref i2) → St1 i s.heap → St2 i s.heap →
    s.heap.get? L = some { cls := .type "list", dict := none, data := .seq acc c, slots := #[] } → acc.size = i → Made P1 P2 N0 s.heap acc →
    (∀ h' tk acc' c', (∀ b o, b < N0 → b ≠ z → b ≠ TO → b ≠ i1 → b ≠ i2 → b ≠ L → s.heap.get? b = some o → h'.get? b = some o) → h'.get? L = some { cls := .type "list", dict := none, data := .seq acc' c', slots := #[] } →
      acc'.size = min n1 n2 → Made P1 P2 N0 h' acc' → R (.ok (.ret res)) { s with heap := h', toks := tk }) →
    codeAny (model prog w) A (.builtin "list.extend.loop" ⟨[.ref L, .ref z, res], []⟩) R s := by
  have Li1 : L ≠ i1 := fun e => L1 (e ▸ S.mem1)
  have Li2 : L ≠ i2 := fun e => L2 (e ▸ S.mem2)
  intro k
  induction k with
  | zero =>
    intro i s acc c hk hi hN hZ hTI st1 st2 hL hsz hM hR
    have hin : i = min n1 n2 := by omega
    refine codeAny_builtin F.entry_extend_loop ?_
    rw [Around.under_plainId F.plain_extend_loop _]
    show wpAny _ A.in1 (pyNext (.ref z) >>= _) _ _ s
    have go : ∀ h' tk, (∀ c o, c ≠ z → c ≠ TO → c ≠ i1 → c ≠ i2 → s.heap.get? c = some o → h'.get? c = some o) → R (.ok (.ret res)) { s with heap := h', toks := tk } := fun h' tk hk' => by
      refine hR h' tk acc c (fun b o _ b1 b2 b3 b4 _ e => hk' b o b1 b2 b3 b4 e) (hk' _ _ Lz LTO Li1 Li2 hL) (by omega) ⟨fun j v e => ?_, hM.2⟩
      obtain ⟨b, x1, x2, ev, hb, p1, p2, ht⟩ := hM.1 j v e
      exact ⟨b, x1, x2, ev, hb, p1, p2, hk' _ _ (big zN hb) (big TON hb) (big i1N hb) (big i2N hb) ht⟩
    rcases hZ with ⟨e0, hz, a, b, hTO⟩ | ⟨T, f, oT, hTN, hT, hz⟩
    · refine wpAny_bind (wpAny_pyNext_zipD2_end S (D1 A.in1.in1 hA) (D2 A.in1.in1 hA) hz hTI hTO st1 st2 (by omega) (by omega) (by omega) fun h' tk hk' => wpAny_pure (go h' tk hk'))
    · refine wpAny_bind (held_end (A := A.in1) S D1 D2 hA hz hT hTI st1 st2 (by omega) (by omega) (by omega) fun h' tk hk' => wpAny_pure (go h' tk fun c o c1 _ c3 c4 e => hk' c o c1 c3 c4 e))
  | succ k ih =>
    intro i s acc c hk hi hN hZ hTI st1 st2 hL hsz hM hR
    have hlt : i < min n1 n2 := by omega
    refine codeAny_builtin F.entry_extend_loop ?_
    rw [Around.under_plainId F.plain_extend_loop _]
    show wpAny _ A.in1 (pyNext (.ref z) >>= _) _ _ s
    have go : ∀ x1 x2 h' tk, P1 i x1 → P2 i x2 → (∃ T f oT, N0 ≤ T ∧ h'.get? T = some oT ∧ IsZipHeld h' z TI TO T f) → St1 (i + 1) h' → St2 (i + 1) h' → IsTupOf2 h' s.heap.objs.size x1 x2 → h'.objs.size = s.heap.objs.size + 1 →
        (∀ c o, c ≠ z → c ≠ TO → c ≠ i1 → c ≠ i2 → s.heap.get? c = some o → h'.get? c = some o) →
        wpAny (model prog w) A.in1 (updateSeq L (·.push (.ref s.heap.objs.size)) >>= fun _ => again (.builtin "list.extend.loop" ⟨[.ref L, .ref z, res], []⟩)) (fun fin s' => match fin with | .done f => R (.ok f) s' | .again c' => c'.quiet = true ∧ codeAny (model prog w) A c' R s') (fun e s' => R (.error e) s') { s with heap := h', toks := tk } := by
      intro x1 x2 h' tk q1 q2 hz' sn1 sn2 hpair hs' hk'
      have hL' := hk' _ _ Lz LTO Li1 Li2 hL
      refine wpAny_bind (wpAny_updateSeq (s := { s with heap := h', toks := tk }) hL' rfl (wpAny_pure ⟨plainId_quiet F.plain_extend_loop _, ?_⟩) (by rw [hsz]; omega) (by show (acc.push _).size ≤ sizeLine + 1; rw [Array.size_push, hsz]; omega))
      have up : ∀ b o, b ≠ L → h'.get? b = some o → (h'.update L (Obj.mapSeq (·.push (.ref s.heap.objs.size)))).get? b = some o := fun b o hb e => (Heap.get?_update_other _ _ (Ne.symm hb)).trans e
      have hTI' := up _ _ (Ne.symm LTI) (hk' _ _ S.TIz S.TITO S.TIi1 S.TIi2 hTI)
      refine ih (i + 1) { s with heap := h'.update L (Obj.mapSeq (·.push (.ref s.heap.objs.size))), toks := tk } (acc.push (.ref s.heap.objs.size)) _ (by omega) hlt ?_ (.inr ?_) hTI' ?_ ?_ (Heap.get?_update_self _ hL' rfl) (by rw [Array.size_push, hsz]) ?_ ?_
      · show N0 ≤ (h'.update L _).objs.size
        rw [Heap.size_update, hs']; exact Nat.le_succ_of_le hN
      · obtain ⟨T, f, oT, hTN, hT, hz⟩ := hz'
        exact ⟨T, f, oT, hTN, up _ _ (big LN hTN) hT, up _ _ (Ne.symm Lz) hz⟩
      · exact (D1 A.in1 hA).frame _ _ _ sn1 fun b hb o e => up b o (fun q => L1 (q ▸ hb)) e
      · exact (D2 A.in1 hA).frame _ _ _ sn2 fun b hb o e => up b o (fun q => L2 (q ▸ hb)) e
      · refine ⟨fun j v e => ?_, fun j k b d hjk e1 e2 => ?_⟩
        rotate_left
        · rw [Array.getElem?_push] at e1 e2
          split at e1
          · rename_i ej
            have hk2 : k < acc.size := by
              split at e2
              · rename_i ek; omega
              · exact (Array.getElem?_eq_some_iff.mp e2).1
            omega
          · split at e2
            · rename_i ek
              cases e2
              obtain ⟨b', x1', x2', ev, hb, p1, p2, ht⟩ := hM.1 j _ e1
              cases ev
              exact Heap.lt_size ht
            · exact hM.2 j k b d hjk e1 e2
        rw [Array.getElem?_push] at e
        split at e
        · rename_i ej
          cases e
          rw [hsz] at ej
          subst ej
          exact ⟨_, x1, x2, rfl, hN, q1, q2, up _ _ (big LN hN) hpair⟩
        · obtain ⟨b, y1, y2, ev, hb, p1, p2, ht⟩ := hM.1 j v e
          exact ⟨b, y1, y2, ev, hb, p1, p2, up _ _ (big LN hb) (hk' _ _ (big zN hb) (big TON hb) (big i1N hb) (big i2N hb) ht)⟩
      · intro h'' tk'' acc' c' hk'' hL'' hsz'' hM''
        exact hR h'' tk'' acc' c' (fun b o hb b1 b2 b3 b4 b5 e => hk'' b o hb b1 b2 b3 b4 b5 (up _ _ b5 (hk' _ _ b1 b2 b3 b4 e))) hL'' hsz'' hM''
    rcases hZ with ⟨e0, hz, a, b, hTO⟩ | ⟨T, f, oT, hTN, hT, hz⟩
    · exact wpAny_bind (wpAny_pyNext_zipD2_item S (D1 A.in1.in1 hA) (D2 A.in1.in1 hA) hz hTI hTO st1 st2 (by omega) (by omega) fun x1 x2 h' tk q1 q2 hz' _ sn1 sn2 hp hs' hk' => go x1 x2 h' tk q1 q2 ⟨_, false, _, hN, hp, hz'⟩ sn1 sn2 hp hs' hk')
    · exact wpAny_bind (held_item (A := A.in1) S D1 D2 hA hz hT hTI st1 st2 (by omega) (by omega) fun x1 x2 h' tk q1 q2 hz' sn1 sn2 hp hs' hk' => go x1 x2 h' tk q1 q2 ⟨T, true, oT, hTN, hk' _ _ (big zN hTN) (big i1N hTN) (big i2N hTN) hT, hz'⟩ sn1 sn2 hp hs' fun c o c1 _ c3 c4 e => hk' c o c1 c3 c4 e)
end
end My

set_option Elab.async false
set_option linter.all false
set_option maxRecDepth 100000
set_option maxHeartbeats 4000000
namespace My
open PySem PySem.W
open PySem.Sem (wp)
theorem zip_no_len : typeLookup (.type "zip") "__len__" = pure none := by rw [typeLookup_type, builtinLookup_eq_fast]; kernel_rfl
theorem zip_no_hint : typeLookup (.type "zip") "__length_hint__" = pure none := by rw [typeLookup_type, builtinLookup_eq_fast]; kernel_rfl
section
variable {prog : Program} {w : World} {z TI TO i1 i2 : Addr} {fp1 fp2 : List Addr} {n1 n2 : Nat} {P1 P2 : Nat → Value → Prop} {St1 St2 : Nat → Heap → Prop}
/-- list(z) of a zip of which nothing was drawn yet -/
theorem list_zip {A : Around} {E : Value → Shared → Prop} {s : Shared} {Q : Value → Shared → Prop} (S : ZipSep2 z TI TO i1 i2 fp1 fp2) (D1 : ∀ A : Around, A.handled = none → Draws prog w A i1 fp1 n1 P1 St1) (D2 : ∀ A : Around, A.handled = none → Draws prog w A i2 fp2 n2 P2 St2) (hA : A.handled = none) (hn : min n1 n2 ≤ sizeLine)
    {a b : Value} (hz : IsZip s.heap z TI TO .none) (hTI : IsTupOf2 s.heap TI (.ref i1) (.ref i2)) (hTO : IsTupOf2 s.heap TO a b) (st1 : St1 0 s.heap) (st2 : St2 0 s.heap) (f1 : ∀ c ∈ fp1, c < s.heap.objs.size) (f2 : ∀ c ∈ fp2, c < s.heap.objs.size)
    (hQ : ∀ h' tk acc c', (∀ b o, b < s.heap.objs.size → b ≠ z → b ≠ TO → b ≠ i1 → b ≠ i2 → s.heap.get? b = some o → h'.get? b = some o) → h'.get? s.heap.objs.size = some { cls := .type "list", dict := none, data := .seq acc c', slots := #[] } →
      acc.size = min n1 n2 → Made P1 P2 (s.heap.objs.size + 1) h' acc → Q (.ref s.heap.objs.size) { s with heap := h', toks := tk }) :
    wpAny (model prog w) A (call (.type "list") [.ref z]) Q E s := by
  refine callType_codes (Q₁ := fun obj s₁ => obj = .ref s.heap.objs.size ∧ s₁ = { s with heap := s.heap.push { cls := .type "list", data := .seq #[] } }) PySem.F.called_list (PySem.F.typeCall_list_1 _) PySem.F.entry_list_init
    (code_list_new _ ⟨rfl, rfl⟩) fun obj s₁ h₁ => ?_
  obtain ⟨rfl, rfl⟩ := h₁
  have zN : z < s.heap.objs.size := Heap.lt_size hz
  have TIN : TI < s.heap.objs.size := Heap.lt_size hTI
  have TON : TO < s.heap.objs.size := Heap.lt_size hTO
  have i1N := f1 _ S.mem1
  have i2N := f2 _ S.mem2
  generalize hL : s.heap.objs.size = L at *
  have hS : (s.heap.push { cls := .type "list", data := .seq #[] }).get? L = some { cls := .type "list", data := .seq #[] } := by rw [← hL]; exact Heap.get?_push_size _ rfl
  have hS1 : (s.heap.push { cls := .type "list", data := .seq #[] }).objs.size = L + 1 := by rw [Heap.size_push, hL]
  refine ⟨⟨_, hS, rfl⟩, PySem.F.args_list_init_2 _ _, ?_⟩
  have key : ∀ (h : Heap) (c₁ : Nat) (tk : Tok), h.objs.size = L + 1 → (∀ b o, b ≠ L → s.heap.get? b = some o → h.get? b = some o) → h.get? L = some { cls := .type "list", data := .seq #[] c₁ } →
      codeAny (model prog w) A.in1 (.builtin "list.extend.loop" ⟨[.ref L, .ref z, .none], []⟩) (wants (fun r s₂ => r = Value.none ∧ Q (.ref L) s₂) E) { s with heap := h, toks := tk } := by
    intro h c₁ tk hsz hk hS₁
    have ne : ∀ {c : Addr}, c < L → c ≠ L := fun q => Nat.ne_of_lt q
    refine ext_zip (A := A.in1) (N0 := L + 1) S D1 D2 hA hn (Nat.ne_of_gt zN) (Nat.ne_of_gt TIN) (Nat.ne_of_gt TON) (fun q => Nat.lt_irrefl _ (f1 _ q)) (fun q => Nat.lt_irrefl _ (f2 _ q)) (Nat.lt_succ_of_lt zN) (Nat.lt_succ_of_lt TIN) (Nat.lt_succ_of_lt TON) (Nat.lt_succ_of_lt i1N) (Nat.lt_succ_of_lt i2N) (Nat.lt_succ_self L) .none
      (min n1 n2) 0 { s with heap := h, toks := tk } #[] c₁ rfl (Nat.zero_le _) (Nat.le_of_eq hsz.symm) (.inl ⟨rfl, hk _ _ (ne zN) hz, a, b, hk _ _ (ne TON) hTO⟩) (hk _ _ (ne TIN) hTI)
      ((D1 A hA).frame _ _ _ st1 fun c hc o e => hk c o (ne (f1 c hc)) e) ((D2 A hA).frame _ _ _ st2 fun c hc o e => hk c o (ne (f2 c hc)) e) hS₁ rfl ⟨fun j v e => by simp at e, fun j k b d _ e _ => by simp at e⟩ ?_
    intro h' tk' acc' c' hk' hL' hsz' hM'
    exact ⟨rfl, hQ h' tk' acc' c' (fun b o hb b1 b2 b3 b4 e => hk' b o (Nat.lt_succ_of_lt hb) b1 b2 b3 b4 (ne hb) (hk _ _ (ne hb) e)) hL' hsz' hM'⟩
  show wpAny _ _ (do let old ← Builtin.List.listItems (.ref L); Builtin.List.listUpdate (.ref L) (fun _ => #[]); letGo old.toList.reverse; Builtin.List.listExtendWith (.ref L) (.ref z) .none) _ _ _
  refine wpAny_bind ?_
  unfold Builtin.List.listItems
  refine wpAny_bind (wpAny_seqItems hS rfl (wpAny_pure ?_))
  show wpAny _ _ (updateSeq L (fun _ => #[]) >>= fun _ => letGo (#[] : Array Value).toList.reverse >>= fun _ => Builtin.List.listExtendWith (.ref L) (.ref z) .none) _ _ _
  refine wpAny_bind (wpAny_updateSeq hS rfl (wpAny_bind (wpAny_letGo ?_)))
  have u1 := Heap.get?_update_self (Obj.mapSeq (fun _ => (#[] : Array Value))) hS rfl
  have k1 : ∀ b o, b ≠ L → s.heap.get? b = some o → ((s.heap.push { cls := .type "list", data := .seq #[] }).update L (Obj.mapSeq (fun _ => (#[] : Array Value)))).get? b = some o :=
    fun b o hb e => (Heap.get?_update_other _ _ (Ne.symm hb)).trans (Heap.get?_push_of_some _ e)
  have z1 : ((s.heap.push { cls := .type "list", data := .seq #[] }).update L (Obj.mapSeq (fun _ => (#[] : Array Value)))).objs.size = L + 1 := by rw [Heap.size_update, hS1]
  generalize ((s.heap.push { cls := .type "list", data := .seq #[] }).update L (Obj.mapSeq (fun _ => (#[] : Array Value)))) = g1 at u1 k1 z1 ⊢
  have hT : ∀ (h : Heap) (tk : Tok), (∀ b o, b ≠ L → s.heap.get? b = some o → h.get? b = some o) → Shared.TypeIs { s with heap := h, toks := tk } (.ref z) "zip" := fun h tk hk => ⟨_, hk _ _ (Nat.ne_of_lt zN) hz, rfl⟩
  unfold Builtin.List.listExtendWith
  refine wpAny_bind (wpAny_typeOf (hT g1 s.toks k1) ?_)
  have e1 : Builtin.List.listSameRef (.ref L) (.ref z) = false := by simp [Builtin.List.listSameRef, Nat.ne_of_gt zN]
  have e2 : (Value.type "zip" == Value.type "list") = false := by decide
  have e3 : (Value.type "zip" == Value.type "tuple") = false := by decide
  simp only [e1, e2, e3, Bool.or_false, Bool.false_eq_true, if_false]
  refine wpAny_bind (wpAny_pyIter_zip (k1 _ _ (Nat.ne_of_lt zN) hz) ?_)
  refine wpAny_bind (wpAny_holding ?_)
  unfold Builtin.List.listLengthHint
  refine wpAny_bind (wpAny_specialOf (hT g1 s.toks k1) zip_no_len ?_)
  show wpAny _ _ (specialOf (Value.ref z) (Str.ofString "__length_hint__") >>= _) _ _ _
  refine wpAny_bind (wpAny_specialOf (hT g1 s.toks k1) zip_no_hint (wpAny_pure ?_))
  show wpAny _ _ (rule "list.extend.makes-room" >>= fun _ => Builtin.List.listTouch (.ref L) >>= fun _ => again (.builtin "list.extend.loop" ⟨[.ref L, .ref z, .none], []⟩)) _ _ _
  refine wpAny_bind (wpAny_rule (wpAny_bind ?_))
  show wpAny _ _ (updateSeq L (·.push .none) >>= fun _ => updateSeq L (·.pop)) _ _ _
  refine wpAny_bind (wpAny_updateSeq u1 rfl ?_)
  have u2 := Heap.get?_update_self (Obj.mapSeq (·.push Value.none)) u1 rfl
  refine wpAny_updateSeq (hz := by seq_fits) u2 rfl ?_
  have u3 := Heap.get?_update_self (Obj.mapSeq (·.pop)) u2 rfl
  exact wpAny_pure ⟨plainId_quiet F.plain_extend_loop _, key _ _ _ (by rw [Heap.size_update, Heap.size_update, z1]) (fun b o hb e => (Heap.get?_update_other _ _ (Ne.symm hb)).trans ((Heap.get?_update_other _ _ (Ne.symm hb)).trans (k1 b o hb e))) u3⟩
end
end My

set_option Elab.async false
set_option linter.all false
set_option maxRecDepth 100000
set_option maxHeartbeats 4000000
namespace My
open PySem PySem.W PySem.Spec PyProof.Rows L2
def putT (H : Hp) : List Addr → List V → List V → Hp
  | t :: ts, x :: xs, y :: ys => upd (putT H ts xs ys) t (.tup [x, y])
  | _, _, _ => H
theorem putT_old {H : Hp} {b : Addr} : ∀ {ts : List Addr} {xs ys : List V}, b ∉ ts → putT H ts xs ys b = H b
  | [], _, _, _ => rfl
  | _ :: _, [], _, _ => rfl
  | _ :: _, _ :: _, [], _ => rfl
  | t :: ts, x :: xs, y :: ys, h => by
    have e : b ≠ t := fun e => h (by rw [e]; exact List.mem_cons_self)
    rw [putT, upd_ne e]
    exact putT_old fun q => h (List.mem_cons_of_mem _ q)
theorem putT_inv {H : Hp} {b : Addr} {o : HO} : ∀ {ts : List Addr} {xs ys : List V}, putT H ts xs ys b = some o → H b = some o ∨ ∃ (j : Nat) (x y : V), ts[j]? = some b ∧ xs[j]? = some x ∧ ys[j]? = some y ∧ o = .tup [x, y]
  | [], _, _, h => .inl h
  | _ :: _, [], _, h => .inl h
  | _ :: _, _ :: _, [], h => .inl h
  | t :: ts, x :: xs, y :: ys, h => by
    rw [putT] at h
    by_cases e : b = t
    · subst e
      rw [upd_same] at h
      exact .inr ⟨0, x, y, rfl, rfl, rfl, (Option.some.inj h).symm⟩
    · rw [upd_ne e] at h
      rcases putT_inv h with q | ⟨j, u, v, q1, q2, q3, q4⟩
      · exact .inl q
      · exact .inr ⟨j + 1, u, v, q1, q2, q3, q4⟩
theorem putT_at {H : Hp} : ∀ {ts : List Addr} {xs ys : List V} {j : Nat} {t : Addr} {x y : V}, ts.Pairwise (· < ·) → ts[j]? = some t → xs[j]? = some x → ys[j]? = some y → putT H ts xs ys t = some (.tup [x, y])
  | [], _, _, _, _, _, _, _, h, _, _ => by simp at h
  | _ :: _, [], _, _, _, _, _, _, _, h, _ => by simp at h
  | _ :: _, _ :: _, [], _, _, _, _, _, _, _, h => by simp at h
  | t :: ts, x :: xs, y :: ys, 0, _, _, _, _, h1, h2, h3 => by
    simp only [List.getElem?_cons_zero, Option.some.injEq] at h1 h2 h3
    rw [putT, h1, h2, h3, upd_same]
  | t :: ts, x :: xs, y :: ys, j + 1, t', _, _, p, h1, h2, h3 => by
    rw [List.pairwise_cons] at p
    rw [putT, upd_ne (Nat.ne_of_gt (p.1 t' (List.mem_of_getElem? (by simpa using h1))))]
    exact putT_at p.2 (by simpa using h1) (by simpa using h2) (by simpa using h3)
theorem refs_of : ∀ l : List Value, (∀ v ∈ l, ∃ b : Addr, v = .ref b) → ∃ ts : List Addr, l = ts.map Value.ref
  | [], _ => ⟨[], rfl⟩
  | v :: l, h => by
    obtain ⟨b, rfl⟩ := h v List.mem_cons_self
    obtain ⟨ts, rfl⟩ := refs_of l fun u hu => h u (List.mem_cons_of_mem _ hu)
    exact ⟨b :: ts, rfl⟩
/-- the abstract heap behind list(zip(..)) -/
def zipH (H : Hp) (L : Addr) (ts : List Addr) (xs ys : List V) : Hp := upd (putT H ts xs ys) L (.lst (ts.map V.ref))
def tLstZip (K : PySem.W.Frag) (ta : TA) : TE := fun σ H Q => ta σ H fun vs H1 => ∃ a b xs ys, vs = [.ref a, .ref b] ∧ SqT K H1 a xs ∧ SqT K H1 b ys ∧
  ∀ (q : Addr) (ts : List Addr) (H2 : Hp), Same H1 H2 → H2 q = some (.lst (ts.map V.ref)) → ts.length = min xs.length ys.length → (∀ (j : Nat) (t : Addr) (x y : V), ts[j]? = some t → xs[j]? = some x → ys[j]? = some y → H2 t = some (.tup [x, y])) → Q (.ref q) H2
theorem pe_listZip {X : Cx} {e e2 : Expr} {ta : TA} {p p2 pos pos2 : Pos} (hc : X.calm = true) (hg : Gl X "list") (hm : X.mg "list" = none) (hgz : Gl X "zip") (hmz : X.mg "zip" = none) (ha : PA X [e, e2] ta)
    (hs : starEach [e, e2] X.env = (false, eval e X.env) :: starEach [e2] X.env := by rfl) (hpl : (backTo pos2 (starEach [e2] X.env)).any (·.1) = false := by rfl)
    (na : starEach [Expr.Call (.Name "zip" p2) [e, e2] [] pos2] X.env = (false, eval (.Call (.Name "zip" p2) [e, e2] [] pos2) X.env) :: starEach [] X.env := by rfl) :
    PE X (.Call (.Name "list" p) [.Call (.Name "zip" p2) [e, e2] [] pos2] [] pos) (tLstZip X.K ta) := by
  refine ⟨fun pins s σ H Q I h => ?_⟩
  have inner : wpAny (model X.prog X.w) X.A (eval (.Call (.Name "zip" p2) [e, e2] [] pos2) X.env) (fun x s' => ∃ (s1 : Shared) (h' : Heap) (H1 : Hp) (a b : Addr) (xs ys : List V) (its its2 : List Value),
      s' = { s1 with heap := h' } ∧ x = .ref (s1.heap.objs.size + 4) ∧ Inv X pins σ H1 s1 ∧ Vals xs its ∧ Vals ys its2 ∧ s1.heap.IsTuple a its.toArray ∧ s1.heap.IsTuple b its2.toArray ∧ its.length ≤ sizeLine ∧
      IsZip h' (s1.heap.objs.size + 4) (s1.heap.objs.size + 2) (s1.heap.objs.size + 3) .none ∧ IsPair h' (s1.heap.objs.size + 2) (.ref s1.heap.objs.size) (.ref (s1.heap.objs.size + 1)) ∧ IsPair h' (s1.heap.objs.size + 3) .none .none ∧
      h'.IsTupleIter s1.heap.objs.size a 0 ∧ h'.IsTupleIter (s1.heap.objs.size + 1) b 0 ∧ h'.objs.size = s1.heap.objs.size + 5 ∧ (∀ c o, s1.heap.get? c = some o → h'.get? c = some o) ∧
      ∀ (q : Addr) (ts : List Addr) (H2 : Hp), Same H1 H2 → H2 q = some (.lst (ts.map V.ref)) → ts.length = min xs.length ys.length → (∀ (j : Nat) (t : Addr) (x y : V), ts[j]? = some t → xs[j]? = some x → ys[j]? = some y → H2 t = some (.tup [x, y])) → Q (.ref q) H2) X.xe s := by
    refine Call_ (ld_blt I hgz hmz PyProof.Rows.boot_zip (PyProof.Rows.callWith_type1 (thn (ha.run pos2 pins s σ H _ I h) fun us s1 ⟨vs, H1, I1, r1, q1⟩ => ?_) hs hpl))
    obtain ⟨a, b, xs, ys, ex, hx, hy, q⟩ := q1
    subst ex
    cases r1 with
    | cons r rr =>
      cases rr with
      | cons r' rr =>
        cases rr
        cases r
        cases r'
        obtain ⟨its, rv, t1, z1⟩ := I1.tuple hx
        obtain ⟨its2, rv2, t2, _⟩ := I1.tuple hy
        have l1 := rv.length
        exact RZ.call_zipT (show s1.heap.IsTuple a its.toArray from t1) (show s1.heap.IsTuple b its2.toArray from t2) fun h' hz hTI hTO h1 h2 hsz hk => ⟨s1, h', H1, a, b, xs, ys, its, its2, rfl, rfl, I1, rv, rv2, t1, t2, by omega, hz, hTI, hTO, h1, h2, hsz, hk, q⟩
  refine Call_ (ld_blt I hg hm boot_list (PyProof.Rows.callWith_type1 (args_cons (thn inner fun x s' hx => args_nil ?_) na) na))
  obtain ⟨s1, h', H1, a, b, xs, ys, its, its2, rfl, rfl, I1, rv, rv2, t1, t2, hlen, hz, hTI, hTO, h1, h2, hsz, hk, q⟩ := hx
  obtain ⟨o1, g1, _⟩ := id t1
  obtain ⟨o2, g2, _⟩ := id t2
  have aN : a < s1.heap.objs.size := Heap.lt_size g1
  have bN : b < s1.heap.objs.size := Heap.lt_size g2
  have S := zip_sep2 (N := s1.heap.objs.size) (fp1 := [a]) (fp2 := [b]) (fun c hc => by rw [List.mem_singleton.mp hc]; exact aN) (fun c hc => by rw [List.mem_singleton.mp hc]; exact bN)
  have l1 := rv.length
  have l2 := rv2.length
  refine list_zip (s := { s1 with heap := h' }) S (fun A hh => Draws.tuple hh s1.heap.objs.size a (Nat.ne_of_lt aN) its.toArray) (fun A hh => Draws.tuple hh (s1.heap.objs.size + 1) b (Nat.ne_of_lt (Nat.lt_succ_of_lt bN)) its2.toArray) (I1.ok.hd hc)
    (by rw [List.size_toArray]; omega) hz hTI hTO ⟨h1, t1.at fun o e => hk _ o e⟩ ⟨h2, t2.at fun o e => hk _ o e⟩ ?_ ?_ ?_
  · intro c hc
    show c < h'.objs.size
    rw [hsz]
    rcases List.mem_cons.mp hc with e | e
    · rw [e]; exact Nat.lt_add_of_pos_right (by decide)
    · rw [List.mem_singleton.mp e]; exact Nat.lt_of_lt_of_le aN (Nat.le_add_right _ _)
  · intro c hc
    show c < h'.objs.size
    rw [hsz]
    rcases List.mem_cons.mp hc with e | e
    · rw [e]; exact Nat.add_lt_add_left (by decide) _
    · rw [List.mem_singleton.mp e]; exact Nat.lt_of_lt_of_le bN (Nat.le_add_right _ _)
  · intro hf tk acc c' keep hL hacc hM
    obtain ⟨ts, hts⟩ := refs_of acc.toList fun v hv => by
      obtain ⟨j, hj⟩ := List.getElem?_of_mem hv
      obtain ⟨t, _, _, ev, _⟩ := hM.1 j v (by rw [← Array.getElem?_toList]; exact hj)
      exact ⟨t, ev⟩
    have at_ : ∀ (j : Nat) (t : Addr), ts[j]? = some t → acc[j]? = some (Value.ref t) := fun j t e => by
      rw [← Array.getElem?_toList, hts, List.getElem?_map, e]; rfl
    have big' : ∀ (j : Nat) (t : Addr), ts[j]? = some t → h'.objs.size + 1 ≤ t := fun j t e => by
      obtain ⟨b', _, _, ev, hb, _⟩ := hM.1 j _ (at_ j t e)
      cases ev
      exact hb
    have inc : ts.Pairwise (· < ·) := by
      rw [List.pairwise_iff_getElem]
      intro i j hi hj hij
      exact hM.2 i j _ _ hij (at_ i _ (List.getElem?_eq_getElem hi)) (at_ j _ (List.getElem?_eq_getElem hj))
    have hlt : ts.length = min xs.length ys.length := by
      have e1 : ts.length = acc.toList.length := by rw [hts, List.length_map]
      rw [e1, Array.length_toList, hacc, List.size_toArray, List.size_toArray, l1, l2]
    have notL : h'.objs.size ∉ ts := fun q => by
      obtain ⟨j, hj⟩ := List.getElem?_of_mem q
      exact Nat.not_succ_le_self _ (big' j _ hj)
    have small : ∀ c : Addr, c < s1.heap.objs.size → zipH H1 h'.objs.size ts xs ys c = H1 c := fun c hc => by
      have c1 : c ≠ h'.objs.size := Nat.ne_of_lt (Nat.lt_of_lt_of_le hc (by rw [hsz]; exact Nat.le_add_right _ _))
      have c2 : c ∉ ts := fun q => by
        obtain ⟨j, hj⟩ := List.getElem?_of_mem q
        have g := big' j _ hj
        rw [hsz] at g
        exact absurd (Nat.lt_of_lt_of_le hc (Nat.le_trans (Nat.le_add_right _ 6) g)) (Nat.lt_irrefl _)
      unfold zipH
      rw [upd_ne c1, putT_old c2]
    have kk : ∀ c o, s1.heap.get? c = some o → hf.get? c = some o := fun c o e => by
      have hcN : c < s1.heap.objs.size := Heap.lt_size e
      have g : ∀ n : Nat, c ≠ s1.heap.objs.size + n := fun n => Nat.ne_of_lt (Nat.lt_of_lt_of_le hcN (Nat.le_add_right _ n))
      exact keep c o (by show c < h'.objs.size; rw [hsz]; exact Nat.lt_of_lt_of_le hcN (Nat.le_add_right _ 5)) (g 4) (g 3) (g 0) (g 1) (hk c o e)
    have old : ∀ c u, H1 c = some u → zipH H1 h'.objs.size ts xs ys c = some u := fun c u e => by rw [small c (I1.hok.lt e)]; exact e
    have hq : zipH H1 h'.objs.size ts xs ys h'.objs.size = some (.lst (ts.map V.ref)) := upd_same
    have hT : ∀ (j : Nat) (t : Addr) (x y : V), ts[j]? = some t → xs[j]? = some x → ys[j]? = some y → zipH H1 h'.objs.size ts xs ys t = some (.tup [x, y]) := fun j t x y e1 e2 e3 => by
      have ht : t ≠ h'.objs.size := Nat.ne_of_gt (big' j t e1)
      unfold zipH
      rw [upd_ne ht]
      exact putT_at inc e1 e2 e3
    refine ⟨.ref h'.objs.size, zipH H1 h'.objs.size ts xs ys, I1.un (t' := tk) (h' := hf) ⟨fun c o e _ _ _ => kk c o e, fun c o e _ _ _ => ⟨o.slots, kk c o e⟩, fun c o e n _ => by rw [small c (Heap.lt_size e)]; exact n, fun c o e _ => ⟨o, kk c o e⟩, fun c us e => old c _ e, fun c o u e => old c _ e, fun c ps e => ⟨#[], by rw [old c _ e]; simp⟩⟩ ?_, rfl, q _ ts _ old hq hlt hT⟩
    intro c u e
    by_cases hc' : c = h'.objs.size
    · subst hc'
      rw [hq] at e
      cases e
      refine ⟨by rw [List.length_map, hlt]; omega, acc.toList, c', ?_, by rw [Array.toArray_toList]; exact hL⟩
      rw [hts]
      exact vals_refs ts
    · unfold zipH at e
      rw [upd_ne hc'] at e
      rcases putT_inv e with e | ⟨j, x, y, j1, j2, j3, rfl⟩
      · exact (I1.hok c u e).stay (fun d v _ g => kk d v g) (fun d g => old d _ g) fun d us g => old d _ g
      · obtain ⟨b', x1, x2, ev, hb, p1, p2, ht⟩ := hM.1 j _ (at_ j c j1)
        cases ev
        obtain ⟨u1, w1, v1⟩ := rv.get j2
        obtain ⟨u2, w2, v2⟩ := rv2.get j3
        have e1 : u1 = x1 := Option.some.inj (w1.symm.trans (by simpa using p1))
        have e2 : u2 = x2 := Option.some.inj (w2.symm.trans (by simpa using p2))
        subst e1 e2
        exact ⟨by show 2 ≤ sizeLine; decide, [u1, u2], .cons v1 (.cons v2 .nil), ⟨_, ht, rfl, _, rfl⟩⟩
end My

set_option Elab.async false
set_option linter.all false
set_option maxRecDepth 100000
set_option maxHeartbeats 4000000
namespace My
open PySem PySem.W
open PySem.Sem (wp)
section
variable {prog : Program} {w : World} {A : Around} {E : Value → Shared → Prop} {s : Shared} {z TI TO i1 i2 : Addr} {fp1 fp2 : List Addr} {n1 n2 i : Nat} {P1 P2 : Nat → Value → Prop} {St1 St2 : Nat → Heap → Prop}
/-- a zip's own record -/
abbrev ZR (h : Heap) (z TI TO : Addr) (f0 : Value) (f : Bool) : Prop := h.get? z = some { cls := .type "zip", dict := none, data := .fields #[f0, .bool f, .bool false, .ref TI, .ref TO], slots := #[] }
/-- a zip as it stands amid a walk: its last pair is let go, or out, whether it is still there or not -/
def ZS (h : Heap) (z TI TO : Addr) : Prop := ∃ f0 f, ZR h z TI TO f0 f ∧ (f0 = .none ∨ ∃ T : Nat, f0 = rawInt (T : Int))
theorem alive_any {a : Addr} {Q : Option Obj → Shared → Prop} (h : Q (s.heap.get? a) s) : wpAny (model prog w) A (loadIfAlive a) Q E s := fun _ _ _ => h
theorem free_or {f0 : Value} {f : Bool} {Q : Bool → Shared → Prop} (hz : ZR s.heap z TI TO f0 f) (hf : f0 = .none ∨ ∃ T : Nat, f0 = rawInt (T : Int)) (h1 : Q true s)
    (h2 : ∀ g T, ZR g z TI TO (rawInt ((T : Nat) : Int)) true → Heap.SameBut z s.heap g → Q false { s with heap := g }) : wpAny (model prog w) A (Builtin.SmallTypes.ownedTupleIsFree (.ref z)) Q E s := by
  unfold Builtin.SmallTypes.ownedTupleIsFree
  rcases hf with rfl | ⟨T, rfl⟩
  · exact wpAny_bind (wpAny_field hz rfl (x := .none) rfl (wpAny_pure h1))
  · refine wpAny_bind (wpAny_field hz rfl (x := rawInt T) rfl ?_)
    show wpAny _ _ (loadIfAlive ((T : Int).toNat) >>= fun q => if q.isNone = true then _ else _) _ _ _
    refine wpAny_bind (alive_any ?_)
    cases hq : s.heap.get? ((T : Int).toNat) with
    | none => exact wpAny_pure h1
    | some o =>
      show wpAny _ _ (if (some o).isNone = true then _ else _) _ _ _
      rw [if_neg (by simp)]
      refine wpAny_bind (wpAny_field hz rfl (x := .bool f) rfl ?_)
      cases f with
      | true =>
        rw [if_neg (show ¬ ((Value.bool true != Value.bool true) = true) by decide)]
        exact wpAny_pure (h2 s.heap T hz (.refl _ _))
      | false =>
        rw [if_pos (show (Value.bool false != Value.bool true) = true by decide)]
        exact wpAny_bind (wpAny_setField_rec hz (by simp) fun g hg sg => wpAny_pure (h2 g T hg sg))
/-- one more pair -/
theorem zs_item {a1 a2 : Value} {Q : Value → Shared → Prop} (S : ZipSep2 z TI TO i1 i2 fp1 fp2) (d1 : Draws prog w A i1 fp1 n1 P1 St1) (d2 : Draws prog w A i2 fp2 n2 P2 St2) (hz : ZS s.heap z TI TO)
    (hTI : IsTupOf2 s.heap TI (.ref i1) (.ref i2)) (hTO : IsTupOf2 s.heap TO a1 a2) (st1 : St1 i s.heap) (st2 : St2 i s.heap) (l1 : i < n1) (l2 : i < n2)
    (hQ : ∀ x1 x2 g tk, P1 i x1 → P2 i x2 → ZS g z TI TO → (∃ b1 b2, IsTupOf2 g TO b1 b2) → St1 (i + 1) g → St2 (i + 1) g → IsTupOf2 g s.heap.objs.size x1 x2 → g.objs.size = s.heap.objs.size + 1 →
      (∀ c o, c ≠ z → c ≠ TO → c ≠ i1 → c ≠ i2 → s.heap.get? c = some o → g.get? c = some o) → Q (.ref s.heap.objs.size) { s with heap := g, toks := tk }) :
    wpAny (model prog w) A (Builtin.«zip.__next__» ⟨[.ref z], []⟩) (fun r s' => ∃ v, r = .done (.ret v) ∧ Q v s') E s := by
  obtain ⟨f0, f, hz, hf⟩ := hz
  obtain ⟨H0, ge, dr, t0, oo⟩ := s
  show wpAny _ _ (field (.ref z) 2 >>= fun _ => _) _ _ _
  refine wpAny_bind (wpAny_field hz rfl (x := .bool false) rfl (wpAny_bind (m := field (.ref z) 3) (wpAny_field hz rfl (x := .ref TI) rfl (wpAny_bind (wpAny_seqItems hTI rfl ?_)))))
  show wpAny _ _ (Builtin.SmallTypes.ownedTupleIsFree (.ref z) >>= fun _ => _) _ _ _
  refine wpAny_bind (free_or hz hf ?_ fun g T hg sg => ?_)
  · simp only [if_true]
    refine wpAny_bind (wpAny_rule (wpAny_bind (wpAny_field hz rfl (x := .ref TO) rfl (wpAny_bind (wpAny_setField_rec hz (by simp) fun k0 zk0 sk0 => wpAny_bind ?_)))))
    have zk0 : ZR k0 z TI TO .ellipsis f := zk0
    have sk0 : Heap.SameBut z H0 k0 := sk0
    simp only [List.zipIdx_cons, List.zipIdx_nil, List.forIn_cons, List.forIn_nil]
    refine wpAny_bind (wpAny_bind (wpAny_onRaise ?_))
    show wpAny _ _ (Builtin.SmallTypes.nextOf (.ref i1) >>= fun _ => _) _ _ ⟨k0, ge, dr, t0, oo⟩
    refine wpAny_bind (d1.item i _ _ _ l1 (d1.over st1 sk0 S.zf1) fun x1 m1 t1 e1 u1 su1 => wpAny_pure ?_)
    have su1 : Heap.SameBut i1 k0 m1 := su1
    have c1 : IsTupOf2 m1 TO a1 a2 := su1.extBut _ _ S.Ti1 (sk0.extBut _ _ S.TOz hTO)
    refine wpAny_bind (wpAny_seqItems (s := ⟨m1, ge, dr, t1, oo⟩) c1 rfl (wpAny_bind (updateSeq_IsTupOf2 (s := ⟨m1, ge, dr, t1, oo⟩) c1 fun k1 c1' sk1 => wpAny_bind (wpAny_letGo (wpAny_pure ?_)))))
    have c1' : IsTupOf2 k1 TO x1 a2 := c1'
    have sk1 : Heap.SameBut TO m1 k1 := sk1
    refine wpAny_bind (wpAny_bind (wpAny_onRaise ?_))
    show wpAny _ _ (Builtin.SmallTypes.nextOf (.ref i2) >>= fun _ => _) _ _ ⟨k1, ge, dr, t1, oo⟩
    refine wpAny_bind (d2.item i _ _ _ l2 (d2.over (d2.over (d2.over st2 sk0 S.zf2) su1 S.sep1_2) sk1 S.Tf2) fun x2 m2 t2 e2 u2 su2 => wpAny_pure ?_)
    have su2 : Heap.SameBut i2 k1 m2 := su2
    have c2 : IsTupOf2 m2 TO x1 a2 := su2.extBut _ _ S.Ti2 c1'
    refine wpAny_bind (wpAny_seqItems (s := ⟨m2, ge, dr, t2, oo⟩) c2 rfl (wpAny_bind (updateSeq_IsTupOf2 (s := ⟨m2, ge, dr, t2, oo⟩) c2 fun k2 c2' sk2 => wpAny_bind (wpAny_letGo (wpAny_pure (wpAny_pure ?_))))))
    have c2' : IsTupOf2 k2 TO x1 x2 := c2'
    have sk2 : Heap.SameBut TO m2 k2 := sk2
    refine wpAny_bind (wpAny_seqItems (s := ⟨k2, ge, dr, t2, oo⟩) c2' rfl (wpAny_bind (wpAny_newTuple ?_)))
    have hsz : k2.objs.size = H0.objs.size := by rw [sk2.1, su2.1, sk1.1, su1.1, sk0.1]
    have zk : ZR k2 z TI TO .ellipsis f := sk2.extBut _ _ S.TOz.symm (su2.extBut _ _ S.zi2 (sk1.extBut _ _ S.TOz.symm (su1.extBut _ _ S.zi1 zk0)))
    have kk : ∀ c o, c ≠ z → c ≠ TO → c ≠ i1 → c ≠ i2 → H0.get? c = some o → k2.get? c = some o := fun c o q0 qT q1 q2 e =>
      sk2.extBut _ _ qT (su2.extBut _ _ q2 (sk1.extBut _ _ qT (su1.extBut _ _ q1 (sk0.extBut _ _ q0 e))))
    have w1 : St1 (i + 1) k2 := d1.over (d1.over (d1.over u1 sk1 S.Tf1) su2 S.sep2_1) sk2 S.Tf1
    have w2 : St2 (i + 1) k2 := d2.over u2 sk2 S.Tf2
    have zlt : z < k2.objs.size := Heap.lt_size zk
    show wpAny _ _ (Builtin.SmallTypes.ownedTupleHandOut (.ref z) (.ref k2.objs.size) >>= fun _ => _) _ _ ⟨k2.push { cls := .type "tuple", data := .seq #[x1, x2] }, ge, dr, t2, oo⟩
    refine wpAny_bind ?_
    unfold Builtin.SmallTypes.ownedTupleHandOut
    have zp : ZR (k2.push { cls := .type "tuple", data := .seq #[x1, x2] }) z TI TO .ellipsis f := Heap.get?_push_of_some _ zk
    refine wpAny_bind (wpAny_setField_rec zp (by simp) fun k3 zk3 sk3 => ?_)
    have zk3 : ZR k3 z TI TO (rawInt (k2.objs.size : Int)) f := zk3
    refine wpAny_setField_rec zk3 (by simp) fun k4 zk4 sk4 => wpAny_pure ⟨_, rfl, ?_⟩
    have zk4 : ZR k4 z TI TO (rawInt (k2.objs.size : Int)) false := zk4
    have sk3 : Heap.SameBut z (k2.push { cls := .type "tuple", data := .seq #[x1, x2] }) k3 := sk3
    have sk4 : Heap.SameBut z k3 k4 := sk4
    have up : ∀ c o, c ≠ z → k2.get? c = some o → k4.get? c = some o := fun c o q e => sk4.extBut _ _ q (sk3.extBut _ _ q (Heap.get?_push_of_some _ e))
    have new : IsTupOf2 k4 k2.objs.size x1 x2 := sk4.extBut _ _ (Nat.ne_of_gt zlt) (sk3.extBut _ _ (Nat.ne_of_gt zlt) (Heap.get?_push_size _ rfl))
    have sz4 : k4.objs.size = k2.objs.size + 1 := by rw [sk4.1, sk3.1, Heap.size_push]
    show Q (.ref k2.objs.size) ⟨k4, ge, dr, t2, oo⟩
    have fin := hQ x1 x2 k4 t2 e1 e2 ⟨_, _, zk4, .inr ⟨_, rfl⟩⟩ ⟨x1, x2, up _ _ S.TOz c2'⟩ (d1.frame _ _ _ w1 fun b hb o e => up b o (fun q => S.zf1 (q ▸ hb)) e) (d2.frame _ _ _ w2 fun b hb o e => up b o (fun q => S.zf2 (q ▸ hb)) e)
    rw [hsz] at new sz4 ⊢
    exact fin new sz4 fun c o q0 qT q1 q2 e => up c o q0 (kk c o q0 qT q1 q2 e)
  · have sg : Heap.SameBut z H0 g := sg
    simp only [Bool.false_eq_true, if_false]
    refine wpAny_bind ?_
    rw [← Array.forIn_toList]
    simp only [List.forIn_cons, List.forIn_nil]
    refine wpAny_bind (wpAny_bind (wpAny_holding ?_))
    show wpAny _ _ (Builtin.SmallTypes.nextOf (.ref i1) >>= fun _ => _) _ _ ⟨g, ge, dr, t0, oo⟩
    refine wpAny_bind (d1.item i ⟨g, ge, dr, t0, oo⟩ _ _ l1 (d1.over st1 sg S.zf1) fun x1 m1 t1 e1 u1 su1 => wpAny_pure (wpAny_pure ?_))
    have su1 : Heap.SameBut i1 g m1 := su1
    refine wpAny_bind (wpAny_bind (wpAny_holding ?_))
    show wpAny _ _ (Builtin.SmallTypes.nextOf (.ref i2) >>= fun _ => _) _ _ ⟨m1, ge, dr, t1, oo⟩
    refine wpAny_bind (d2.item i ⟨m1, ge, dr, t1, oo⟩ _ _ l2 (d2.over (d2.over st2 sg S.zf2) su1 S.sep1_2) fun x2 m2 t2 e2 u2 su2 => wpAny_pure (wpAny_pure (wpAny_pure ?_)))
    have su2 : Heap.SameBut i2 m1 m2 := su2
    show wpAny _ _ (newTuple [x1, x2] >>= fun _ => _) _ _ ⟨m2, ge, dr, t2, oo⟩
    refine wpAny_bind (wpAny_newTuple (wpAny_pure ⟨_, rfl, ?_⟩))
    have hsz : m2.objs.size = H0.objs.size := by rw [su2.1, su1.1, sg.1]
    show Q (.ref m2.objs.size) ⟨m2.push { cls := .type "tuple", data := .seq #[x1, x2] }, ge, dr, t2, oo⟩
    have up : ∀ c o, m2.get? c = some o → (m2.push { cls := .type "tuple", data := .seq #[x1, x2] }).get? c = some o := fun c o e => Heap.get?_push_of_some _ e
    have new : IsTupOf2 (m2.push { cls := .type "tuple", data := .seq #[x1, x2] }) m2.objs.size x1 x2 := Heap.get?_push_size _ rfl
    have sz4 : (m2.push { cls := .type "tuple", data := .seq #[x1, x2] }).objs.size = m2.objs.size + 1 := Heap.size_push ..
    have zk : ZR (m2.push { cls := .type "tuple", data := .seq #[x1, x2] }) z TI TO (rawInt (T : Int)) true := up _ _ (su2.extBut _ _ S.zi2 (su1.extBut _ _ S.zi1 hg))
    have cT : IsTupOf2 (m2.push { cls := .type "tuple", data := .seq #[x1, x2] }) TO a1 a2 := up _ _ (su2.extBut _ _ S.Ti2 (su1.extBut _ _ S.Ti1 (sg.extBut _ _ S.TOz hTO)))
    have fin := hQ x1 x2 _ t2 e1 e2 ⟨_, _, zk, .inr ⟨_, rfl⟩⟩ ⟨_, _, cT⟩ (d1.frame _ _ _ (d1.over u1 su2 S.sep2_1) fun b _ o e => up b o e) (d2.frame _ _ _ u2 fun b _ o e => up b o e)
    rw [hsz] at new sz4 ⊢
    exact fin new sz4 fun c o q0 _ q1 q2 e => up c o (su2.extBut _ _ q2 (su1.extBut _ _ q1 (sg.extBut _ _ q0 e)))
/-- no more -/
theorem zs_end {a1 a2 : Value} {Q : Fin → Shared → Prop} (S : ZipSep2 z TI TO i1 i2 fp1 fp2) (d1 : Draws prog w A i1 fp1 n1 P1 St1) (d2 : Draws prog w A i2 fp2 n2 P2 St2) (hz : ZS s.heap z TI TO)
    (hTI : IsTupOf2 s.heap TI (.ref i1) (.ref i2)) (hTO : IsTupOf2 s.heap TO a1 a2) (st1 : St1 i s.heap) (st2 : St2 i s.heap) (l1 : i ≤ n1) (l2 : i ≤ n2) (he : i = n1 ∨ i = n2)
    (hE : ∀ g tk e, (∀ c o, c ≠ z → c ≠ TO → c ≠ i1 → c ≠ i2 → s.heap.get? c = some o → g.get? c = some o) → (∃ o, g.get? e = some o ∧ o.cls = .type "StopIteration") → E (.ref e) { s with heap := g, toks := tk }) :
    wpAny (model prog w) A (Builtin.«zip.__next__» ⟨[.ref z], []⟩) Q E s := by
  obtain ⟨f0, f, hz, hf⟩ := hz
  obtain ⟨H0, ge, dr, t0, oo⟩ := s
  show wpAny _ _ (field (.ref z) 2 >>= fun _ => _) _ _ _
  refine wpAny_bind (wpAny_field hz rfl (x := .bool false) rfl (wpAny_bind (m := field (.ref z) 3) (wpAny_field hz rfl (x := .ref TI) rfl (wpAny_bind (wpAny_seqItems hTI rfl ?_)))))
  show wpAny _ _ (Builtin.SmallTypes.ownedTupleIsFree (.ref z) >>= fun _ => _) _ _ _
  refine wpAny_bind (free_or hz hf ?_ fun g T hg sg => ?_)
  · simp only [if_true]
    refine wpAny_bind (wpAny_rule (wpAny_bind (wpAny_field hz rfl (x := .ref TO) rfl (wpAny_bind (wpAny_setField_rec hz (by simp) fun k0 zk0 sk0 => wpAny_bind ?_)))))
    have zk0 : ZR k0 z TI TO .ellipsis f := zk0
    have sk0 : Heap.SameBut z H0 k0 := sk0
    simp only [List.zipIdx_cons, List.zipIdx_nil, List.forIn_cons, List.forIn_nil]
    have shut : ∀ (q : Heap) (t : Tok) (e : Addr), ZR q z TI TO .ellipsis f → (∃ o, q.get? e = some o ∧ o.cls = .type "StopIteration") → (∀ c o, c ≠ z → c ≠ TO → c ≠ i1 → c ≠ i2 → H0.get? c = some o → q.get? c = some o) →
        wpAny (model prog w) A (setField (.ref z) 0 .none) (fun _ s' => E (.ref e) s') E ⟨q, ge, dr, t, oo⟩ := by
      rintro q t e zq ⟨o, ho, hc⟩ kq
      have hez : e ≠ z := fun x => by subst x; rw [zq] at ho; cases ho; simp at hc
      refine wpAny_setField_rec (s := ⟨q, ge, dr, t, oo⟩) zq (by simp) fun q' _ sq => ?_
      have sq : Heap.SameBut z q q' := sq
      exact hE q' t e (fun c o q0 qT q1 q2 x => sq.extBut _ _ q0 (kq c o q0 qT q1 q2 x)) ⟨o, sq.extBut _ _ hez ho, hc⟩
    refine wpAny_bind (wpAny_bind (wpAny_onRaise ?_))
    show wpAny _ _ (Builtin.SmallTypes.nextOf (.ref i1) >>= fun _ => _) _ _ ⟨k0, ge, dr, t0, oo⟩
    by_cases h1 : i < n1
    · refine wpAny_bind (d1.item i _ _ _ h1 (d1.over st1 sk0 S.zf1) fun x1 m1 t1 e1 u1 su1 => wpAny_pure ?_)
      have su1 : Heap.SameBut i1 k0 m1 := su1
      have c1 : IsTupOf2 m1 TO a1 a2 := su1.extBut _ _ S.Ti1 (sk0.extBut _ _ S.TOz hTO)
      refine wpAny_bind (wpAny_seqItems (s := ⟨m1, ge, dr, t1, oo⟩) c1 rfl (wpAny_bind (updateSeq_IsTupOf2 (s := ⟨m1, ge, dr, t1, oo⟩) c1 fun k1 c1' sk1 => wpAny_bind (wpAny_letGo (wpAny_pure ?_)))))
      have sk1 : Heap.SameBut TO m1 k1 := sk1
      have e2 : i = n2 := by omega
      refine wpAny_bind (wpAny_bind (wpAny_onRaise ?_))
      show wpAny _ _ (Builtin.SmallTypes.nextOf (.ref i2) >>= fun _ => _) _ _ ⟨k1, ge, dr, t1, oo⟩
      refine wpAny_bind (d2.done ⟨k1, ge, dr, t1, oo⟩ _ _ (by rw [← e2]; exact d2.over (d2.over (d2.over st2 sk0 S.zf2) su1 S.sep1_2) sk1 S.Tf2) fun q e hq hx => ?_)
      have hq : Heap.ExtBut i2 k1 q := hq
      exact shut q t1 e (hq _ _ S.zi2 (sk1.extBut _ _ S.TOz.symm (su1.extBut _ _ S.zi1 zk0))) hx fun c o q0 qT q1 q2 x => hq _ _ q2 (sk1.extBut _ _ qT (su1.extBut _ _ q1 (sk0.extBut _ _ q0 x)))
    · have e1 : i = n1 := by omega
      refine wpAny_bind (d1.done ⟨k0, ge, dr, t0, oo⟩ _ _ (by rw [← e1]; exact d1.over st1 sk0 S.zf1) fun q e hq hx => ?_)
      have hq : Heap.ExtBut i1 k0 q := hq
      exact shut q t0 e (hq _ _ S.zi1 zk0) hx fun c o q0 _ q1 _ x => hq _ _ q1 (sk0.extBut _ _ q0 x)
  · have sg : Heap.SameBut z H0 g := sg
    simp only [Bool.false_eq_true, if_false]
    refine wpAny_bind ?_
    rw [← Array.forIn_toList]
    simp only [List.forIn_cons, List.forIn_nil]
    refine wpAny_bind (wpAny_bind (wpAny_holding ?_))
    show wpAny _ _ (Builtin.SmallTypes.nextOf (.ref i1) >>= fun _ => _) _ _ ⟨g, ge, dr, t0, oo⟩
    by_cases h1 : i < n1
    · refine wpAny_bind (d1.item i ⟨g, ge, dr, t0, oo⟩ _ _ h1 (d1.over st1 sg S.zf1) fun x1 m1 t1 e1 u1 su1 => wpAny_pure (wpAny_pure ?_))
      have su1 : Heap.SameBut i1 g m1 := su1
      have e2 : i = n2 := by omega
      refine wpAny_bind (wpAny_bind (wpAny_holding ?_))
      show wpAny _ _ (Builtin.SmallTypes.nextOf (.ref i2) >>= fun _ => _) _ _ ⟨m1, ge, dr, t1, oo⟩
      refine wpAny_bind (d2.done ⟨m1, ge, dr, t1, oo⟩ _ _ (by rw [← e2]; exact d2.over (d2.over st2 sg S.zf2) su1 S.sep1_2) fun q e hq hx => ?_)
      exact hE q t1 e (fun c o q0 _ q1 q2 x => hq _ _ q2 (su1.extBut _ _ q1 (sg.extBut _ _ q0 x))) hx
    · have e1 : i = n1 := by omega
      refine wpAny_bind (d1.done ⟨g, ge, dr, t0, oo⟩ _ _ (by rw [← e1]; exact d1.over st1 sg S.zf1) fun q e hq hx => ?_)
      exact hE q t0 e (fun c o q0 _ q1 _ x => hq _ _ q1 (sg.extBut _ _ q0 x)) hx
end
end My

set_option Elab.async false
set_option linter.all false
set_option maxRecDepth 100000
set_option maxHeartbeats 4000000
namespace My
open PySem PySem.W PySem.Spec PyProof.Rows L2
section
variable {prog : Program} {w : World} {A : Around} {E : Value → Shared → Prop} {s : Shared}
/-- enumerate's turn, whatever its iterator does -/
theorem en_item {e it : Addr} {c : Int} {old : Value} {Q : Value → Shared → Prop} (he : IsEnum s.heap e it c old)
    (hn : wpAny (model prog w) A (Builtin.SmallTypes.nextOf (.ref it)) (fun x s1 => IsEnum s1.heap e it c old ∧ ∀ g tk, IsEnumOut g e it (c + 1) x s1.heap.objs.size → g.get? s1.heap.objs.size = some { cls := .type "tuple", data := .seq #[.int c tk, x] } →
      g.objs.size = s1.heap.objs.size + 1 → (∀ b o, b ≠ e → s1.heap.get? b = some o → g.get? b = some o) → Q (.ref s1.heap.objs.size) { s1 with heap := g, toks := tk + 1 }) E s) :
    wpAny (model prog w) A (Builtin.«enumerate.__next__» ⟨[.ref e], []⟩) (fun r s' => ∃ v, r = .done (.ret v) ∧ Q v s') E s := by
  show wpAny _ _ (field (.ref e) 2 >>= fun _ => _) _ _ _
  refine wpAny_bind (wpAny_field he rfl (x := .ref it) rfl (wpAny_bind (wpAny_mono hn ?_ fun _ _ q => q)))
  rintro x ⟨g1, ge, dr, t1, oo⟩ ⟨he1, hQ⟩
  show wpAny _ _ (field (.ref e) 3 >>= fun _ => _) _ _ ⟨g1, ge, dr, t1, oo⟩
  refine wpAny_bind (wpAny_field he1 rfl (x := rawInt c) rfl (wpAny_bind (m := field (.ref e) 4) (wpAny_field he1 rfl (x := .none) rfl ?_)))
  show wpAny _ _ (mkInt c >>= fun _ => _) _ _ ⟨g1, ge, dr, t1, oo⟩
  refine wpAny_bind (wpAny_mkInt (wpAny_bind (m := setField (.ref e) 3 (rawInt (c + 1))) (wpAny_setField_rec he1 (by simp) fun g2 he2 s2 => ?_)))
  have he2 : IsEnum g2 e it (c + 1) old := he2
  have s2 : Heap.SameBut e g1 g2 := s2
  refine wpAny_bind (m := setField (.ref e) 4 .none) (wpAny_setField_rec (s := ⟨g2, ge, dr, t1 + 1, oo⟩) he2 (by simp) fun g3 he3 s3 => ?_)
  have he3 : IsEnum g3 e it (c + 1) old := he3
  have s3 : Heap.SameBut e g2 g3 := s3
  show wpAny _ _ (newTuple [.int c t1, x] >>= fun _ => _) _ _ ⟨g3, ge, dr, t1 + 1, oo⟩
  refine wpAny_bind (wpAny_newTuple ?_)
  have he4 : IsEnum (g3.push { cls := .type "tuple", data := .seq #[.int c t1, x] }) e it (c + 1) old := Heap.get?_push_of_some _ he3
  have z3 : g3.objs.size = g1.objs.size := by rw [s3.1, s2.1]
  have elt : e < g1.objs.size := Heap.lt_size he1
  have new4 : (g3.push { cls := .type "tuple", data := .seq #[.int c t1, x] }).get? g1.objs.size = some { cls := .type "tuple", data := .seq #[.int c t1, x] } := by
    rw [← z3]; exact Heap.get?_push_size _ rfl
  have z4 : (g3.push { cls := .type "tuple", data := .seq #[.int c t1, x] }).objs.size = g1.objs.size + 1 := by rw [Heap.size_push, z3]
  have k4 : ∀ b o, b ≠ e → g1.get? b = some o → (g3.push { cls := .type "tuple", data := .seq #[.int c t1, x] }).get? b = some o := fun b o hb q => Heap.get?_push_of_some _ (s3.extBut b o hb (s2.extBut b o hb q))
  show wpAny _ _ (Builtin.SmallTypes.ownedTupleIsFree (.ref e) >>= fun _ => _) _ _ ⟨g3.push { cls := .type "tuple", data := .seq #[.int c t1, x] }, ge, dr, t1 + 1, oo⟩
  rw [z3]
  generalize g3.push { cls := .type "tuple", data := .seq #[.int c t1, x] } = g4 at he4 new4 z4 k4 ⊢
  refine wpAny_bind ?_
  unfold Builtin.SmallTypes.ownedTupleIsFree
  refine wpAny_bind (wpAny_field he4 rfl (x := .none) rfl (wpAny_pure ?_))
  simp only [if_true]
  refine wpAny_bind (wpAny_rule (wpAny_bind (wpAny_field he4 rfl (x := old) rfl (wpAny_bind (wpAny_setField_rec he4 (by simp) fun g5 he5 s5 => ?_)))))
  have he5 : IsEnum g5 e it (c + 1) x := he5
  have s5 : Heap.SameBut e g4 g5 := s5
  show wpAny _ _ (Builtin.SmallTypes.ownedTupleHandOut (.ref e) (.ref g1.objs.size) >>= fun _ => _) _ _ ⟨g5, ge, dr, t1 + 1, oo⟩
  refine wpAny_bind ?_
  unfold Builtin.SmallTypes.ownedTupleHandOut
  refine wpAny_bind (wpAny_setField_rec he5 (by simp) fun g6 he6 s6 => ?_)
  have he6 : IsEnumOut g6 e it (c + 1) x g1.objs.size := he6
  have s6 : Heap.SameBut e g5 g6 := s6
  refine wpAny_setField_rec he6 (by simp) fun g7 he7 s7 => wpAny_bind (wpAny_letGo (wpAny_pure ⟨_, rfl, ?_⟩))
  have s7 : Heap.SameBut e g6 g7 := s7
  have up : ∀ b o, b ≠ e → g4.get? b = some o → g7.get? b = some o := fun b o hb q => s7.extBut b o hb (s6.extBut b o hb (s5.extBut b o hb q))
  exact hQ g7 t1 he7 (up _ _ (Nat.ne_of_gt elt) new4) (by show g7.objs.size = g1.objs.size + 1; rw [s7.1, s6.1, s5.1, z4]) fun b o hb q => up b o hb (k4 b o hb q)
/-- enumerate(zip) as it begins -/
theorem meets_enZ (z TI TO : Addr) : Meets (Builtin.«enumerate.__new__» ⟨[.type "enumerate", .ref z], []⟩) (fun _ R s => IsZip s.heap z TI TO .none ∧
    R (.ok (.ret (.ref s.heap.objs.size))) { s with heap := s.heap.push { cls := .type "enumerate", data := .fields #[.none, .bool false, .ref z, rawInt 0, .none, .none] } }) :=
  .of_wp fun prog w A R s hh => by
    obtain ⟨H0, ge, dr, t0, oo⟩ := s
    obtain ⟨hz, hR⟩ := hh
    have hs := sub_enumerate
    have ow : ∀ {A' : Around} {E : Value → Shared → Prop} {Q : Value → Shared → Prop}, Q (.ref z) ⟨H0, ge, dr, t0, oo⟩ → wpAny (model prog w) A' (pyIter (.ref z)) Q E ⟨H0, ge, dr, t0, oo⟩ := fun q => wpAny_pyIter_zip hz q
    wp_walk using ow
    refine wpAny_stack_any (fun stk => wpAny_pure ?_)
    split
    · rename_i cl _ _ _ _ _
      cases hcl : (cl == Value.type "enumerate") <;> (wp_walk using ow) <;> exact ⟨_, rfl, hR⟩
    · wp_walk using ow
      exact ⟨_, rfl, hR⟩
theorem call_enZ {z TI TO : Addr} {Q : Value → Shared → Prop} (hz : IsZip s.heap z TI TO .none)
    (h : ∀ g, IsEnum g s.heap.objs.size z 0 .none → g.objs.size = s.heap.objs.size + 1 → (∀ b o, s.heap.get? b = some o → g.get? b = some o) → Q (.ref s.heap.objs.size) { s with heap := g }) : wpAny (model prog w) A (call (.type "enumerate") [.ref z]) Q E s := by
  have he : IsEnum (s.heap.push { cls := .type "enumerate", data := .fields #[.none, .bool false, .ref z, rawInt 0, .none, .none] }) s.heap.objs.size z 0 .none := Heap.get?_push_size _ rfl
  exact callType_new F.called_enumerate (by decide) (F.typeCall_enumerate_1 _) (F.newCall_enumerate_1 _) (fun obj => F.args_object_init_2 obj _) F.entry_enumerate_new (meets_enZ z TI TO)
    ⟨hz, ⟨⟨_, he, rfl⟩, h _ he (Heap.size_push ..) fun b o x => Heap.get?_push_of_some _ x⟩⟩
end
/-! ### a list or a tuple -/
def SqX (k : Bool) (K : PySem.W.Frag) (H : Hp) (a : Addr) (xs : List V) : Prop := if k = true then SqL K H a xs else SqT K H a xs
def IterX (k : Bool) (h : Heap) (it a : Addr) (i : Nat) : Prop := if k = true then h.IsListIter it a i else h.IsTupleIter it a i
def SeqX (k : Bool) (h : Heap) (a : Addr) (its : Array Value) : Prop := if k = true then h.IsList a its else h.IsTuple a its
theorem Inv.seqX {X : Cx} {pins : List (Addr × Obj)} {σ : L2.St} {H : Hp} {s : Shared} {k : Bool} {a : Addr} {xs : List V} (I : Inv X pins σ H s) (h : SqX k X.K H a xs) : ∃ its : List Value, Vals xs its ∧ SeqX k s.heap a its.toArray ∧ a < s.heap.objs.size := by
  cases k with
  | true =>
    obtain ⟨its, r, p, _⟩ := I.list (show SqL X.K H a xs from h)
    exact ⟨its, r, p.isList, p.lt⟩
  | false =>
    obtain ⟨its, r, p, _⟩ := I.tuple (show SqT X.K H a xs from h)
    obtain ⟨o, ho, _⟩ := id p
    exact ⟨its, r, p, Heap.lt_size ho⟩
theorem drawsX {prog : Program} {w : World} {A : Around} (k : Bool) (hh : A.handled = none) (it a : Addr) (hne : a ≠ it) (its : Array Value) : Draws prog w A it [it, a] its.size (fun i v => its[i]? = some v) (fun i h => IterX k h it a i ∧ SeqX k h a its) := by
  cases k with
  | true => exact Draws.list hh it a hne its
  | false => exact Draws.tuple hh it a hne its
def objX (k : Bool) (a : Addr) : Obj := { cls := .type (if k = true then "list_iterator" else "tuple_iterator"), data := .fields #[.ref a, .int 0 0] }
theorem beginsX (k : Bool) (a : Addr) (its : Array Value) : Begins (.ref a) (objX k a) fun h => SeqX k h a its := by
  cases k with
  | true => exact begins_list a its
  | false => exact begins_tuple a its
theorem IterX.at' {k : Bool} {h h' : Heap} {it a : Addr} {i : Nat} (x : IterX k h it a i) (q : ∀ o, h.get? it = some o → h'.get? it = some o) : IterX k h' it a i := by
  cases k with
  | true => exact Heap.IsListIter.at (show h.IsListIter it a i from x) q
  | false => exact Heap.IsTupleIter.at (show h.IsTupleIter it a i from x) q
theorem IterX.ex {k : Bool} {h : Heap} {it a : Addr} {i : Nat} (x : IterX k h it a i) : ∃ o, h.get? it = some o ∧ ∀ v, o.data ≠ .cell v := by
  cases k with
  | true =>
    obtain ⟨o, e, _, d⟩ := (show h.IsListIter it a i from x)
    exact ⟨o, e, fun v q => by rw [d] at q; cases q⟩
  | false =>
    obtain ⟨o, e, _, d⟩ := (show h.IsTupleIter it a i from x)
    exact ⟨o, e, fun v q => by rw [d] at q; cases q⟩
theorem IterX.new {k : Bool} {h : Heap} {it a : Addr} (e : h.get? it = some (objX k a)) : IterX k h it a 0 := by
  cases k with
  | true => exact ⟨_, e, rfl, rfl⟩
  | false => exact ⟨_, e, rfl, rfl⟩
end My

set_option Elab.async false
set_option linter.all false
set_option maxRecDepth 100000
set_option maxHeartbeats 4000000
namespace My
open PySem PySem.W PySem.Spec PyProof.Rows L2
/-- enumerate(zip(a, b)): each a list or a tuple as it stands -/
def Itez (K : PySem.W.Frag) (ka kb : Bool) (a b : Addr) (xs ys : List V) : It :=
  ⟨fun i H => SqX ka K H a xs ∧ SqX kb K H b ys ∧ i < xs.length ∧ i < ys.length,
    fun i H v H' => ∃ T Tp x y, v = .ref T ∧ H Tp = none ∧ (L2.upd H Tp (.tup [x, y])) T = none ∧ H' = L2.upd (L2.upd H Tp (.tup [x, y])) T (.tup [.int (i : Nat), .ref Tp]) ∧ xs[i]? = some x ∧ ys[i]? = some y,
    fun i H => SqX ka K H a xs ∧ SqX kb K H b ys ∧ (xs.length ≤ i ∨ ys.length ≤ i)⟩
abbrev fpEZ (N : Addr) : List Addr := [N + 5, N + 4, N + 2, N + 3, N, N + 1]
theorem mem_fpEZ {N c : Addr} (h : c ∈ fpEZ N) : c = N + 5 ∨ c = N + 4 ∨ c = N + 2 ∨ c = N + 3 ∨ c = N ∨ c = N + 1 := by simpa using h
theorem turn_ez {P : Program} {w : World} {K : PySem.W.Frag} {elts : List Expr} {kk : Nat} {tpos : Pos} {N a b : Addr} {ka kb : Bool} {xs ys : List V} (aN : a < N) (bN : b < N) :
    Turn P w K (.Tuple elts kk tpos) (Itez K ka kb a b xs ys) (fpEZ N) (N + 5) (fun i h => (∃ old, IsEnum h (N + 5) (N + 4) ((i : Nat) : Int) old) ∧ ZS h (N + 4) (N + 2) (N + 3) ∧ IsTupOf2 h (N + 2) (.ref N) (.ref (N + 1)) ∧ (∃ a1 a2, IsTupOf2 h (N + 3) a1 a2) ∧ IterX ka h N a i ∧ IterX kb h (N + 1) b i ∧ i ≤ xs.length ∧ i ≤ ys.length) where
  mem := by simp
  obj := fun i h st c hc => by
    obtain ⟨⟨old, he⟩, ⟨f0, f, hz, _⟩, hTI, ⟨a1, a2, hTO⟩, h1, h2, _, _⟩ := st
    rcases mem_fpEZ hc with q | q | q | q | q | q
    · rw [q]; exact ⟨_, he, fun v q => nomatch q⟩
    · rw [q]; exact ⟨_, hz, fun v q => nomatch q⟩
    · rw [q]; exact ⟨_, hTI, fun v q => nomatch q⟩
    · rw [q]; exact ⟨_, hTO, fun v q => nomatch q⟩
    · rw [q]; exact h1.ex
    · rw [q]; exact h2.ex
  keep := fun i h h' st k => by
    obtain ⟨⟨old, he⟩, ⟨f0, f, hz, hf⟩, hTI, ⟨a1, a2, hTO⟩, h1, h2, l1, l2⟩ := st
    exact ⟨⟨old, k _ (by simp) _ he⟩, ⟨f0, f, k _ (by simp) _ hz, hf⟩, k _ (by simp) _ hTI, ⟨a1, a2, k _ (by simp) _ hTO⟩, h1.at' fun o q => k _ (by simp) o q, h2.at' fun o q => k _ (by simp) o q, l1, l2⟩
  item := by
    intro X hP hw hK hc i pins s σ H E I hf st hg
    subst hP hw hK
    obtain ⟨⟨old, he⟩, hz, hTI, ⟨a1, a2, hTO⟩, h1, h2, l1, l2⟩ := st
    obtain ⟨hqx, hqy, g1, g2⟩ := hg
    obtain ⟨its1, rv1, p1, _⟩ := Inv.seqX I hqx
    obtain ⟨its2, rv2, p2, _⟩ := Inv.seqX I hqy
    have hl1 := rv1.length
    have hl2 := rv2.length
    have S := zip_sep2 (N := N) (fp1 := [a]) (fp2 := [b]) (fun c hc => by rw [List.mem_singleton.mp hc]; exact aN) (fun c hc => by rw [List.mem_singleton.mp hc]; exact bN)
    have d1 := drawsX (prog := X.prog) (w := X.w) (A := X.A.in1.in1) ka (I.ok.hd hc) N a (Nat.ne_of_lt aN) its1.toArray
    have d2 := drawsX (prog := X.prog) (w := X.w) (A := X.A.in1.in1) kb (I.ok.hd hc) (N + 1) b (Nat.ne_of_lt (Nat.lt_succ_of_lt bN)) its2.toArray
    have hT : s.TypeIs (.ref (N + 5)) "enumerate" := ⟨_, he, rfl⟩
    have hTz : s.TypeIs (.ref (N + 4)) "zip" := let ⟨_, _, q, _⟩ := hz; ⟨_, q, rfl⟩
    have hel : N + 5 < s.heap.objs.size := Heap.lt_size he
    have ne : ∀ {p q : Nat}, p < q → N + p ≠ N + q := fun h => Nat.ne_of_lt (Nat.add_lt_add_left h _)
    unfold pyNext
    refine wpAny_bind (wpAny_attempt (wpAny_callSpecial?_slot (name := Str.ofString "__next__") hT F.slot_enumerate_next (wpAny_call_entry F.slot_enumerate_next hT F.entry_enumerate_next (en_item he ?_) (F.args_enumerate_next_1 _))))
    unfold Builtin.SmallTypes.nextOf
    refine wpAny_bind (wpAny_callSpecial?_slot (name := Str.ofString "__next__") hTz F.slot_zip_next (wpAny_call_entry F.slot_zip_next hTz F.entry_zip_next
      (zs_item S d1 d2 hz hTI hTO ⟨h1, p1⟩ ⟨h2, p2⟩ (by rw [List.size_toArray]; omega) (by rw [List.size_toArray]; omega) fun x1 x2 k1 t1 q1 q2 zk1 tk1 w1 w2 new1 sz1 kp1 => wpAny_pure ⟨?_, fun k2 t2 eo2 new2 sz2 kp2 => wpAny_pure ⟨_, rfl, wpAny_letOwnedTupleGo_enum (s := { s with heap := k2, toks := t2 + 1 }) eo2 fun k3 e3 sb3 => ?_⟩⟩) (F.args_zip_next_1 _)))
    · exact kp1 _ _ (Ne.symm (ne (p := 4) (q := 5) (by decide))) (Ne.symm (ne (p := 3) (q := 5) (by decide))) (Ne.symm (ne (p := 0) (q := 5) (by decide))) (Ne.symm (ne (p := 1) (q := 5) (by decide))) he
    have sb3 : Heap.SameBut (N + 5) k2 k3 := sb3
    have new2 : k2.get? k1.objs.size = some { cls := .type "tuple", data := .seq #[.int (i : Int) t2, .ref s.heap.objs.size] } := new2
    have kp2 : ∀ c o, c ≠ N + 5 → k1.get? c = some o → k2.get? c = some o := kp2
    have hys1 : xs[i]? = some xs[i] := List.getElem?_eq_getElem g1
    have hys2 : ys[i]? = some ys[i] := List.getElem?_eq_getElem g2
    obtain ⟨u1, hu1, ru1⟩ := rv1.get hys1
    obtain ⟨u2, hu2, ru2⟩ := rv2.get hys2
    have e1 : u1 = x1 := Option.some.inj (hu1.symm.trans (by simpa using q1))
    have e2 : u2 = x2 := Option.some.inj (hu2.symm.trans (by simpa using q2))
    subst e1 e2
    have lt6 : ∀ c ∈ fpEZ N, c < s.heap.objs.size := fun c hcm => by
      have b5 : ∀ k, k ≤ 5 → N + k < s.heap.objs.size := fun k hk' => Nat.lt_of_le_of_lt (Nat.add_le_add_left hk' _) hel
      rcases mem_fpEZ hcm with q | q | q | q | q | q
      · rw [q]; exact hel
      · rw [q]; exact b5 4 (by decide)
      · rw [q]; exact b5 2 (by decide)
      · rw [q]; exact b5 3 (by decide)
      · rw [q]; exact b5 0 (by decide)
      · rw [q]; exact b5 1 (by decide)
    have ob1 : ObjOk X.prog X.w (L2.upd H s.heap.objs.size (.tup [xs[i], ys[i]])) k1 s.heap.objs.size (.tup [xs[i], ys[i]]) := ⟨by show 2 ≤ sizeLine; decide, [u1, u2], .cons ru1 (.cons ru2 .nil), ⟨_, new1, rfl, _, rfl⟩⟩
    have I1 : Inv X pins σ (L2.upd H s.heap.objs.size (.tup [xs[i], ys[i]])) { s with heap := k1, toks := t1 } :=
      I.turnedNew (t' := t1) (ch := fpEZ N) (fun c o hb q => kp1 c o (fun q' => hb (by simp [q'])) (fun q' => hb (by simp [q'])) (fun q' => hb (by simp [q'])) (fun q' => hb (by simp [q'])) q) hf (Nat.le_refl _) ob1
    have hf1 : ∀ c ∈ fpEZ N, FpOk X pins (L2.upd H s.heap.objs.size (.tup [xs[i], ys[i]])) c := fun c hcm => ⟨by rw [upd_ne (Nat.ne_of_lt (lt6 c hcm))]; exact (hf c hcm).1, (hf c hcm).2⟩
    have new3 : k3.get? k1.objs.size = some { cls := .type "tuple", data := .seq #[.int (i : Int) t2, .ref s.heap.objs.size] } := (sb3.2 _ (by rw [sz1]; exact Nat.ne_of_gt (Nat.lt_succ_of_lt hel))).trans new2
    have ob2 : ObjOk X.prog X.w (L2.upd (L2.upd H s.heap.objs.size (.tup [xs[i], ys[i]])) k1.objs.size (.tup [.int (i : Nat), .ref s.heap.objs.size])) k3 k1.objs.size (.tup [.int (i : Nat), .ref s.heap.objs.size]) := ⟨by show 2 ≤ sizeLine; decide, [.int (i : Int) t2, .ref s.heap.objs.size], .cons ⟨_, rfl⟩ (.cons rfl .nil), ⟨_, new3, rfl, _, rfl⟩⟩
    have I2 : Inv X pins σ (L2.upd (L2.upd H s.heap.objs.size (.tup [xs[i], ys[i]])) k1.objs.size (.tup [.int (i : Nat), .ref s.heap.objs.size])) { s with heap := k3, toks := t2 + 1 } :=
      I1.turnedNew (t' := t2 + 1) (ch := [N + 5]) (fun c o hb q => (sb3.2 c (by simpa using hb)).trans (kp2 c o (by simpa using hb) q)) (fun c hcm => hf1 c (by rw [List.mem_singleton.mp hcm]; simp)) (Nat.le_refl _) ob2
    have up : ∀ c o, c ≠ N + 5 → k1.get? c = some o → k3.get? c = some o := fun c o q e => (sb3.2 c q).trans (kp2 c o q e)
    obtain ⟨f0', f', zr', fz'⟩ := zk1
    obtain ⟨b1, b2, tq'⟩ := tk1
    refine ⟨.ref k1.objs.size, _, I2, rfl, ⟨_, _, xs[i], ys[i], rfl, I.hok.fresh (Nat.le_refl _), I1.hok.fresh (Nat.le_refl _), rfl, hys1, hys2⟩, ⟨⟨.ref s.heap.objs.size, ?_⟩, ⟨f0', f', up _ _ (ne (p := 4) (q := 5) (by decide)) zr', fz'⟩, ?_, ⟨b1, b2, up _ _ (ne (p := 3) (q := 5) (by decide)) tq'⟩, w1.1.at' fun o q => up _ _ (ne (p := 0) (q := 5) (by decide)) q, w2.1.at' fun o q => up _ _ (ne (p := 1) (q := 5) (by decide)) q, g1, g2⟩, fun c hcm => ?_⟩
    · have e3 : IsEnum k3 (N + 5) (N + 4) ((i : Int) + 1) (.ref s.heap.objs.size) := e3
      rw [show (((i + 1 : Nat) : Int)) = (i : Int) + 1 by omega]
      exact e3
    · exact up _ _ (ne (p := 2) (q := 5) (by decide)) (kp1 _ _ S.TIz S.TITO S.TIi1 S.TIi2 hTI)
    · rw [upd_ne (by rw [sz1]; exact Nat.ne_of_lt (Nat.lt_succ_of_lt (lt6 c hcm)))]
      exact (hf1 c hcm).1
  done := by
    intro X hP hw hK hc i pins s σ H E I hf st hg
    subst hP hw hK
    obtain ⟨⟨old, he⟩, hz, hTI, ⟨a1, a2, hTO⟩, h1, h2, l1, l2⟩ := st
    obtain ⟨hqx, hqy, hend⟩ := hg
    have hend : xs.length ≤ i ∨ ys.length ≤ i := hend
    obtain ⟨its1, rv1, p1, _⟩ := Inv.seqX I hqx
    obtain ⟨its2, rv2, p2, _⟩ := Inv.seqX I hqy
    have hl1 := rv1.length
    have hl2 := rv2.length
    have S := zip_sep2 (N := N) (fp1 := [a]) (fp2 := [b]) (fun c hc => by rw [List.mem_singleton.mp hc]; exact aN) (fun c hc => by rw [List.mem_singleton.mp hc]; exact bN)
    have d1 := drawsX (prog := X.prog) (w := X.w) (A := X.A.in1.in1) ka (I.ok.hd hc) N a (Nat.ne_of_lt aN) its1.toArray
    have d2 := drawsX (prog := X.prog) (w := X.w) (A := X.A.in1.in1) kb (I.ok.hd hc) (N + 1) b (Nat.ne_of_lt (Nat.lt_succ_of_lt bN)) its2.toArray
    have hT : s.TypeIs (.ref (N + 5)) "enumerate" := ⟨_, he, rfl⟩
    have hTz : s.TypeIs (.ref (N + 4)) "zip" := let ⟨_, _, q, _⟩ := hz; ⟨_, q, rfl⟩
    unfold pyNext
    refine wpAny_bind (wpAny_attempt (wpAny_callSpecial?_slot (name := Str.ofString "__next__") hT F.slot_enumerate_next (wpAny_call_entry F.slot_enumerate_next hT F.entry_enumerate_next ?_ (F.args_enumerate_next_1 _))))
    show wpAny _ _ (field (.ref (N + 5)) 2 >>= fun _ => _) _ _ _
    refine wpAny_bind (wpAny_field he rfl (x := .ref (N + 4)) rfl (wpAny_bind ?_))
    unfold Builtin.SmallTypes.nextOf
    refine wpAny_bind (wpAny_callSpecial?_slot (name := Str.ofString "__next__") hTz F.slot_zip_next (wpAny_call_entry F.slot_zip_next hTz F.entry_zip_next
      (zs_end S d1 d2 hz hTI hTO ⟨h1, p1⟩ ⟨h2, p2⟩ (by rw [List.size_toArray]; omega) (by rw [List.size_toArray]; omega) (by rw [List.size_toArray, List.size_toArray]; omega) fun q t e kq hx => ?_) (F.args_zip_next_1 _)))
    obtain ⟨o, ho, hco⟩ := hx
    refine wpAny_bind (wpAny_isInstance (T := "StopIteration") (b := true) ⟨o, ho, hco⟩ isSubtype_stop (wpAny_pure ⟨rfl, ?_⟩))
    exact I.turnedL (t' := t) (ch := fpEZ N) (fun c o hb q => kq c o (fun q' => hb (by simp [q'])) (fun q' => hb (by simp [q'])) (fun q' => hb (by simp [q'])) (fun q' => hb (by simp [q'])) q) hf
  self := fun A i s Q E st h => let ⟨⟨_, he⟩, _⟩ := st; wpAny_pyIter_enum he h
def iEZ (K : PySem.W.Frag) (ta : TA) : TI := fun σ H R => ta σ H fun vs H1 => ∃ ka kb a b xs ys, vs = [.ref a, .ref b] ∧ SqX ka K H1 a xs ∧ SqX kb K H1 b ys ∧ R (Itez K ka kb a b xs ys) H1
theorem pi_ez {X : Cx} {e e2 : Expr} {ta : TA} {p p2 pos pos2 tpos : Pos} {elts : List Expr} {kk : Nat} (hg : Gl X "enumerate") (hm : X.mg "enumerate" = none) (hg2 : Gl X "zip") (hm2 : X.mg "zip" = none) (ha : PA X [e, e2] ta)
    (hs1 : starEach [.Call (.Name "zip" p2) [e, e2] [] pos2] X.env = (false, eval (.Call (.Name "zip" p2) [e, e2] [] pos2) X.env) :: starEach [] X.env := by rfl)
    (hs : starEach [e, e2] X.env = (false, eval e X.env) :: starEach [e2] X.env := by rfl) (hpl : (backTo pos2 (starEach [e2] X.env)).any (·.1) = false := by rfl) :
    PI X (.Tuple elts kk tpos) (.Call (.Name "enumerate" p) [.Call (.Name "zip" p2) [e, e2] [] pos2] [] pos) (iEZ X.K ta) := by
  refine ⟨fun pins s σ H R I h => ?_⟩
  refine Call_ (ld_blt I hg hm boot_enumerate (PyProof.Rows.callWith_type1 (args_cons ?_ hs1) hs1 rfl))
  refine Call_ (ld_blt I hg2 hm2 PyProof.Rows.boot_zip (PyProof.Rows.callWith_type1 (thn (ha.run pos2 pins s σ H _ I h) fun us s1 ⟨vs, H1, I1, r1, q1⟩ => ?_) hs hpl))
  obtain ⟨ka, kb, a, b, xs, ys, ex, hx, hy, q⟩ := q1
  subst ex
  cases r1 with
  | cons r rr =>
    cases rr with
    | cons r' rr =>
      cases rr
      cases r
      cases r'
      obtain ⟨its1, rv1, p1, lt1⟩ := Inv.seqX I1 hx
      obtain ⟨its2, rv2, p2, lt2⟩ := Inv.seqX I1 hy
      refine zip_begins2 (beginsX ka a its1.toArray) (beginsX kb b its2.toArray) p1 p2 fun h' hz hTI hTO h1 h2 hsz hk => args_nil ?_
      refine call_enZ (s := { s1 with heap := h' }) hz fun g he sz kg => wpAny_pyIter_enum he ?_
      have kall : ∀ c o, s1.heap.get? c = some o → g.get? c = some o := fun c o e => kg c o (hk c o e)
      have I2 : Inv X pins σ H1 { s1 with heap := g } := I1.kept (t' := s1.toks) kall
      have he : IsEnum g (s1.heap.objs.size + 5) (s1.heap.objs.size + 4) 0 .none := by rw [← hsz]; exact he
      refine ⟨s1.heap.objs.size + 5, fpEZ s1.heap.objs.size, _, _, H1, by show Value.ref h'.objs.size = _; rw [hsz], I2, turn_ez (xs := xs) (ys := ys) (ka := ka) (kb := kb) lt1 lt2, ⟨⟨.none, he⟩, ⟨.none, false, kg _ _ hz, .inl rfl⟩, kg _ _ hTI, ⟨_, _, kg _ _ hTO⟩, .new (kg _ _ h1), .new (kg _ _ h2), Nat.zero_le _, Nat.zero_le _⟩, fun c hcm => ?_, q⟩
      have hle : s1.heap.objs.size ≤ c := by
        rcases mem_fpEZ hcm with z | z | z | z | z | z
        · rw [z]; exact Nat.le_add_right _ _
        · rw [z]; exact Nat.le_add_right _ _
        · rw [z]; exact Nat.le_add_right _ _
        · rw [z]; exact Nat.le_add_right _ _
        · rw [z]; exact Nat.le_refl _
        · rw [z]; exact Nat.le_add_right _ _
      exact I1.fpOk hle (I1.hok.fresh hle)
theorem walk_ez {K : PySem.W.Frag} {ka kb : Bool} {a b : Addr} {xs ys : List V} (hl : xs.length = ys.length) : Walk (Itez K ka kb a b xs ys) xs.length (fun H => SqX ka K H a xs ∧ SqX kb K H b ys)
    (fun i H v H' => ∃ T Tp x y, v = .ref T ∧ H Tp = none ∧ (L2.upd H Tp (.tup [x, y])) T = none ∧ H' = L2.upd (L2.upd H Tp (.tup [x, y])) T (.tup [.int (i : Nat), .ref Tp]) ∧ xs[i]? = some x ∧ ys[i]? = some y) :=
  ⟨fun i H hi q => ⟨q.1, q.2, hi, by omega⟩, fun H q => ⟨q.1, q.2, .inl (Nat.le_refl _)⟩, fun _ _ _ _ _ _ y => y⟩
end My

set_option Elab.async false
set_option linter.all false
set_option maxRecDepth 100000
set_option maxHeartbeats 4000000
namespace My
open PySem PySem.W PySem.Spec PyProof.Rows L2
/-- enumerate(a): a list or a tuple as it stands -/
def Itex (K : PySem.W.Frag) (ka : Bool) (a : Addr) (xs : List V) : It :=
  ⟨fun i H => SqX ka K H a xs ∧ i < xs.length, fun i H v H' => ∃ T x, v = .ref T ∧ H T = none ∧ H' = L2.upd H T (.tup [.int (i : Nat), x]) ∧ xs[i]? = some x, fun i H => SqX ka K H a xs ∧ xs.length ≤ i⟩
theorem turn_ex {P : Program} {w : World} {K : PySem.W.Frag} {elts : List Expr} {kk : Nat} {tpos : Pos} {N a : Addr} {ka : Bool} {xs : List V} (aN : a < N) :
    Turn P w K (.Tuple elts kk tpos) (Itex K ka a xs) [N + 1, N] (N + 1) (fun i h => (∃ old, IsEnum h (N + 1) N ((i : Nat) : Int) old) ∧ IterX ka h N a i ∧ i ≤ xs.length) where
  mem := by simp
  obj := fun i h st c hc => by
    obtain ⟨⟨old, he⟩, h1, _⟩ := st
    rcases (show c = N + 1 ∨ c = N by simpa using hc) with q | q
    · rw [q]; exact ⟨_, he, fun v q => nomatch q⟩
    · rw [q]; exact h1.ex
  keep := fun i h h' st k => by
    obtain ⟨⟨old, he⟩, h1, l1⟩ := st
    exact ⟨⟨old, k _ (by simp) _ he⟩, h1.at' fun o q => k _ (by simp) o q, l1⟩
  item := by
    intro X hP hw hK hc i pins s σ H E I hf st hg
    subst hP hw hK
    obtain ⟨⟨old, he⟩, h1, l1⟩ := st
    obtain ⟨hqx, g1⟩ := hg
    obtain ⟨its1, rv1, p1, _⟩ := Inv.seqX I hqx
    have hl1 := rv1.length
    have d1 := drawsX (prog := X.prog) (w := X.w) (A := X.A.in1) ka (I.ok.hd hc) N a (Nat.ne_of_lt aN) its1.toArray
    have hT : s.TypeIs (.ref (N + 1)) "enumerate" := ⟨_, he, rfl⟩
    have hel : N + 1 < s.heap.objs.size := Heap.lt_size he
    have nz : N + 1 ≠ N := Nat.succ_ne_self _
    unfold pyNext
    refine wpAny_bind (wpAny_attempt (wpAny_callSpecial?_slot (name := Str.ofString "__next__") hT F.slot_enumerate_next (wpAny_call_entry F.slot_enumerate_next hT F.entry_enumerate_next (en_item he ?_) (F.args_enumerate_next_1 _))))
    refine d1.item i s _ _ (by rw [List.size_toArray]; omega) ⟨h1, p1⟩ fun x1 k1 t1 q1 w1 sb1 => ⟨sb1.extBut _ _ nz he, fun k2 t2 eo2 new2 sz2 kp2 => wpAny_pure ⟨_, rfl, wpAny_letOwnedTupleGo_enum (s := { s with heap := k2, toks := t2 + 1 }) eo2 fun k3 e3 sb3 => ?_⟩⟩
    have sb1 : Heap.SameBut N s.heap k1 := sb1
    have sb3 : Heap.SameBut (N + 1) k2 k3 := sb3
    have new2 : k2.get? k1.objs.size = some { cls := .type "tuple", data := .seq #[.int (i : Int) t2, x1] } := new2
    have kp2 : ∀ c o, c ≠ N + 1 → k1.get? c = some o → k2.get? c = some o := kp2
    rw [sb1.1] at new2
    have hys1 : xs[i]? = some xs[i] := List.getElem?_eq_getElem g1
    obtain ⟨u1, hu1, ru1⟩ := rv1.get hys1
    have e1 : u1 = x1 := Option.some.inj (hu1.symm.trans (by simpa using q1))
    subst e1
    have new3 : k3.get? s.heap.objs.size = some { cls := .type "tuple", data := .seq #[.int (i : Int) t2, u1] } := (sb3.2 _ (Nat.ne_of_gt hel)).trans new2
    have ob2 : ObjOk X.prog X.w (L2.upd H s.heap.objs.size (.tup [.int (i : Nat), xs[i]])) k3 s.heap.objs.size (.tup [.int (i : Nat), xs[i]]) := ⟨by show 2 ≤ sizeLine; decide, [.int (i : Int) t2, u1], .cons ⟨_, rfl⟩ (.cons ru1 .nil), ⟨_, new3, rfl, _, rfl⟩⟩
    have up : ∀ c o, c ≠ N + 1 → c ≠ N → s.heap.get? c = some o → k3.get? c = some o := fun c o q q' e => (sb3.2 c q).trans (kp2 c o q (sb1.extBut _ _ q' e))
    have I2 : Inv X pins σ (L2.upd H s.heap.objs.size (.tup [.int (i : Nat), xs[i]])) { s with heap := k3, toks := t2 + 1 } :=
      I.turnedNew (t' := t2 + 1) (ch := [N + 1, N]) (fun c o hb q => up c o (fun z => hb (by simp [z])) (fun z => hb (by simp [z])) q) hf (Nat.le_refl _) ob2
    refine ⟨.ref s.heap.objs.size, _, I2, by show Value.ref k1.objs.size = _; rw [sb1.1], ⟨_, xs[i], rfl, I.hok.fresh (Nat.le_refl _), rfl, hys1⟩, ⟨⟨u1, ?_⟩, w1.1.at' fun o q => (sb3.2 _ nz.symm).trans (kp2 _ _ nz.symm q), g1⟩, fun c hcm => ?_⟩
    · have e3 : IsEnum k3 (N + 1) N ((i : Int) + 1) u1 := e3
      rw [show (((i + 1 : Nat) : Int)) = (i : Int) + 1 by omega]
      exact e3
    · have hlt : c < s.heap.objs.size := by
        rcases (show c = N + 1 ∨ c = N by simpa using hcm) with q | q
        · rw [q]; exact hel
        · rw [q]; exact Nat.lt_of_succ_lt hel
      rw [upd_ne (Nat.ne_of_lt hlt)]
      exact (hf c hcm).1
  done := by
    intro X hP hw hK hc i pins s σ H E I hf st hg
    subst hP hw hK
    obtain ⟨⟨old, he⟩, h1, l1⟩ := st
    obtain ⟨hqx, hend⟩ := hg
    have hend : xs.length ≤ i := hend
    obtain ⟨its1, rv1, p1, _⟩ := Inv.seqX I hqx
    have hl1 := rv1.length
    have d1 := drawsX (prog := X.prog) (w := X.w) (A := X.A.in1) ka (I.ok.hd hc) N a (Nat.ne_of_lt aN) its1.toArray
    have ei : i = its1.toArray.size := by rw [List.size_toArray]; omega
    refine wpAny_pyNext_enum_endD d1 he ⟨by rw [← ei]; exact h1, p1⟩ fun h' eb => ⟨rfl, ?_⟩
    exact I.turnedL (t' := s.toks) (ch := [N + 1, N]) (fun c o hb q => eb c o (fun z => hb (by simp [z])) q) hf
  self := fun A i s Q E st h => let ⟨⟨_, he⟩, _⟩ := st; wpAny_pyIter_enum he h
def iEX (K : PySem.W.Frag) (te : TE) : TI := fun σ H R => te σ H fun v H1 => ∃ ka a xs, v = .ref a ∧ SqX ka K H1 a xs ∧ R (Itex K ka a xs) H1
theorem meets_enX (k : Bool) (a : Addr) (its : Array Value) : Meets (Builtin.«enumerate.__new__» ⟨[.type "enumerate", .ref a], []⟩) (fun _ R s => SeqX k s.heap a its ∧
    R (.ok (.ret (.ref (s.heap.push (objX k a)).objs.size))) { s with heap := (s.heap.push (objX k a)).push { cls := .type "enumerate", data := .fields #[.none, .bool false, .ref s.heap.objs.size, rawInt 0, .none, .none] } }) :=
  .of_wp fun prog w A R s hh => by
    obtain ⟨H0, ge, dr, t0, oo⟩ := s
    obtain ⟨hz, hR⟩ := hh
    have hs := sub_enumerate
    have ow : ∀ {A' : Around} {E : Value → Shared → Prop} {Q : Value → Shared → Prop}, Q (.ref H0.objs.size) ⟨H0.push (objX k a), ge, dr, t0, oo⟩ → wpAny (model prog w) A' (pyIter (.ref a)) Q E ⟨H0, ge, dr, t0, oo⟩ := fun q => (beginsX k a its).iter prog w _ _ ⟨H0, ge, dr, t0, oo⟩ _ hz q
    wp_walk using ow
    refine wpAny_stack_any (fun stk => wpAny_pure ?_)
    split
    · rename_i cl _ _ _ _ _
      cases hcl : (cl == Value.type "enumerate") <;> (wp_walk using ow) <;> exact ⟨_, rfl, hR⟩
    · wp_walk using ow
      exact ⟨_, rfl, hR⟩
theorem pi_ex {X : Cx} {e : Expr} {te : TE} {p pos tpos : Pos} {elts : List Expr} {kk : Nat} (hg : Gl X "enumerate") (hm : X.mg "enumerate" = none) (he : PE X e te)
    (hs1 : starEach [e] X.env = (false, eval e X.env) :: starEach [] X.env := by rfl) : PI X (.Tuple elts kk tpos) (.Call (.Name "enumerate" p) [e] [] pos) (iEX X.K te) := by
  refine ⟨fun pins s σ H R I h => ?_⟩
  refine Call_ (ld_blt I hg hm boot_enumerate (PyProof.Rows.callWith_type1 (one_arg he I h (fun u s1 x H1 I1 r1 q1 => ?_) hs1) hs1 rfl))
  obtain ⟨ka, a, xs, ex, hx, q⟩ := q1
  subst ex
  cases r1
  obtain ⟨its1, rv1, p1, lt1⟩ := Inv.seqX I1 hx
  have hz : (s1.heap.push (objX ka a)).objs.size = s1.heap.objs.size + 1 := Heap.size_push ..
  have e0 : ((s1.heap.push (objX ka a)).push { cls := .type "enumerate", data := .fields #[.none, .bool false, .ref s1.heap.objs.size, rawInt 0, .none, .none] }).get? (s1.heap.objs.size + 1) = some { cls := .type "enumerate", data := .fields #[.none, .bool false, .ref s1.heap.objs.size, rawInt 0, .none, .none] } := by
    rw [← hz]; exact Heap.get?_push_size _ rfl
  refine callType_new F.called_enumerate (by decide) (F.typeCall_enumerate_1 _) (F.newCall_enumerate_1 _) (fun obj => F.args_object_init_2 obj _) F.entry_enumerate_new (meets_enX ka a its1.toArray) ⟨p1, ?_⟩
  show _ ∧ _
  rw [hz]
  refine ⟨⟨_, e0, rfl⟩, wpAny_pyIter_enum e0 ?_⟩
  have kall : ∀ c o, s1.heap.get? c = some o → ((s1.heap.push (objX ka a)).push { cls := .type "enumerate", data := .fields #[.none, .bool false, .ref s1.heap.objs.size, rawInt 0, .none, .none] }).get? c = some o := fun c o e => Heap.get?_push_of_some _ (Heap.get?_push_of_some _ e)
  refine ⟨s1.heap.objs.size + 1, [s1.heap.objs.size + 1, s1.heap.objs.size], _, _, H1, rfl, I1.kept (t' := s1.toks) kall, turn_ex (xs := xs) (ka := ka) lt1, ⟨⟨.none, e0⟩, .new (Heap.get?_push_of_some _ (Heap.get?_push_size _ (beginsX ka a its1.toArray).free)), Nat.zero_le _⟩, fun c hcm => ?_, q⟩
  have hle : s1.heap.objs.size ≤ c := by
    rcases (show c = s1.heap.objs.size + 1 ∨ c = s1.heap.objs.size by simpa using hcm) with z | z
    · rw [z]; exact Nat.le_add_right _ _
    · rw [z]; exact Nat.le_refl _
  exact I1.fpOk hle (I1.hok.fresh hle)
theorem walk_ex {K : PySem.W.Frag} {ka : Bool} {a : Addr} {xs : List V} : Walk (Itex K ka a xs) xs.length (fun H => SqX ka K H a xs) (fun i H v H' => ∃ T x, v = .ref T ∧ H T = none ∧ H' = L2.upd H T (.tup [.int (i : Nat), x]) ∧ xs[i]? = some x) :=
  ⟨fun i H hi q => ⟨q, hi⟩, fun H q => ⟨q, Nat.le_refl _⟩, fun _ _ _ _ _ _ y => y⟩
end My

set_option Elab.async false
set_option linter.all false
set_option maxRecDepth 100000
set_option maxHeartbeats 4000000
namespace My
open PySem L2
def top (i : Nat) : Stmt := PySem.Challenge.pw_rankloop_k01_ranks_chosen.main.body.getD i (.Pass ⟨0, 0, 0, 0⟩)
/-! ### the pen: what a law draws from -/
abbrev kC : Key := Sum.inr "cells"
abbrev kA : Key := Sum.inr "at"
abbrev kL : Key := Sum.inr "left"
def pen (l : Addr) (n L : Int) : List (Key × V) := [(kC, .ref l), (kA, .int n), (kL, .int L)]
theorem sCA : ¬ Str.ofString "cells" = Str.ofString "at" := by decide +kernel
theorem sCL : ¬ Str.ofString "cells" = Str.ofString "left" := by decide +kernel
theorem sAL : ¬ Str.ofString "at" = Str.ofString "left" := by decide +kernel
theorem sLA : ¬ Str.ofString "left" = Str.ofString "at" := by decide +kernel
theorem nCA : ¬ kC = kA := fun h => absurd (Sum.inr.inj h) (by decide +kernel)
theorem nCL : ¬ kC = kL := fun h => absurd (Sum.inr.inj h) (by decide +kernel)
theorem nAL : ¬ kA = kL := fun h => absurd (Sum.inr.inj h) (by decide +kernel)
theorem pen_c (l : Addr) (n L : Int) : valV (pen l n L) kC = some (.ref l) := valV_pos rfl
theorem pen_a (l : Addr) (n L : Int) : valV (pen l n L) kA = some (.int n) := (valV_neg nCA).trans (valV_pos rfl)
theorem pen_l (l : Addr) (n L : Int) : valV (pen l n L) kL = some (.int L) := (valV_neg nCL).trans ((valV_neg nAL).trans (valV_pos rfl))
theorem pen_putA (l : Addr) (n L m : Int) : putK (pen l n L) kA (.int m) = pen l m L := by
  simp [putK, pen, sCA, sLA]
theorem pen_putL (l : Addr) (n L m : Int) : putK (pen l n L) kL (.int m) = pen l n m := by
  simp [putK, pen, sCL, sAL]
theorem pen_len (l : Addr) (n L : Int) : (pen l n L).length < sizeLine := by
  show 3 < sizeLine
  decide
theorem pen_new (l : Addr) (n L : Int) : mergeK [] (pen l n L) = pen l n L := by
  have h1 : putK [] kC (.ref l) = [(kC, V.ref l)] := rfl
  have h2 : putK [(kC, V.ref l)] kA (.int n) = [(kC, V.ref l), (kA, V.int n)] := by simp [putK, sCA]
  have h3 : putK [(kC, V.ref l), (kA, V.int n)] kL (.int L) = pen l n L := by simp [putK, pen, sCL, sAL]
  show putK (putK (putK [] kC (.ref l)) kA (.int n)) kL (.int L) = _
  rw [h1, h2, h3]
/-- a pen stands at d, its cells at l -/
structure Pen (H : Hp) (d l : Addr) (ms : List Int) (n L : Int) : Prop where
  dc : H d = some (.dK (pen l n L))
  ls : H l = some (.lst (ms.map V.int))
  n0 : 0 ≤ n
  l0 : 0 ≤ L
theorem Pen.ne {H : Hp} {d l : Addr} {ms : List Int} {n L : Int} (p : Pen H d l ms n L) : l ≠ d := ne_of p.ls p.dc (by intro z; cases z)
theorem Pen.gC {H : Hp} {d l : Addr} {ms : List Int} {n L : Int} (p : Pen H d l ms n L) : DGet H d (.str "cells") (some (.ref l)) := by
  have h := DGet.k (k := kC) p.dc
  rw [pen_c] at h
  exact h
theorem Pen.gA {H : Hp} {d l : Addr} {ms : List Int} {n L : Int} (p : Pen H d l ms n L) : DGet H d (.str "at") (some (.int n)) := by
  have h := DGet.k (k := kA) p.dc
  rw [pen_a] at h
  exact h
theorem Pen.gL {H : Hp} {d l : Addr} {ms : List Int} {n L : Int} (p : Pen H d l ms n L) : DGet H d (.str "left") (some (.int L)) := by
  have h := DGet.k (k := kL) p.dc
  rw [pen_l] at h
  exact h
theorem Pen.pA {H : Hp} {d l : Addr} {ms : List Int} {n L : Int} (p : Pen H d l ms n L) (y : Int) : DPut H d (.str "at") (.int y) (L2.upd H d (.dK (pen l y L))) := by
  have h := DPut.k (k := kA) (v := .int y) p.dc (pen_len l n L)
  rw [pen_putA] at h
  exact h
theorem Pen.pL {H : Hp} {d l : Addr} {ms : List Int} {n L : Int} (p : Pen H d l ms n L) (y : Int) : DPut H d (.str "left") (.int y) (L2.upd H d (.dK (pen l n y))) := by
  have h := DPut.k (k := kL) (v := .int y) p.dc (pen_len l n L)
  rw [pen_putL] at h
  exact h
def spPen (K : PySem.W.Frag) : Sp := fun vs H Q _ => ∃ (a : Addr) (ns : List Int), vs = [.ref a] ∧ SqL K H a (ns.map V.int) ∧
  ∀ (d l : Addr) (ms : List Int) (H' : Hp), H d = none → H l = none → Same H H' → Pen H' d l ms 0 0 → Q (.ref d) H'
def spDraw : Sp := fun vs H Q _ => ∃ (d l : Addr) (ms : List Int) (n L m : Int), vs = [.ref d, .int m] ∧ Pen H d l ms n L ∧ n < 2 ^ 40 ∧ 0 < m ∧ m < 1073741824 ∧
  ∀ (r n' L' : Int) (H' : Hp), 0 ≤ r → r < m → n ≤ n' → n' ≤ n + 1 → Pen H' d l ms n' L' → (∀ c o, H c = some o → c ≠ d → H' c = some o) → Q (.int r) H'
theorem Pen.upd' {H : Hp} {d l : Addr} {ms : List Int} {n L n' L' : Int} (p : Pen H d l ms n L) (h1 : 0 ≤ n') (h2 : 0 ≤ L') : Pen (L2.upd H d (.dK (pen l n' L'))) d l ms n' L' :=
  ⟨upd_same, by rw [upd_ne p.ne]; exact p.ls, h1, h2⟩
theorem cut_ints (ns : List Int) (lo hi : Option Int) : ∃ ms : List Int, cutV (ns.map V.int) lo hi = ms.map V.int := by
  unfold cutV
  refine ⟨(ns.drop (HT.sIx (ns.map V.int).length 0 lo)).take (HT.sIx (ns.map V.int).length (ns.map V.int).length hi - HT.sIx (ns.map V.int).length 0 lo), ?_⟩
  rw [List.map_take, List.map_drop]
section
variable {P : Program} {w : World} {K : PySem.W.Frag} {mg : Str → Option Value} {base : Heap}
abbrev sPen : Stmt := top 3
abbrev sDraw : Stmt := top 4
theorem scPen : FnScope ["_law_script"] ["_law_script"] (defScope sPen) := ⟨rfl, rfl, rfl, by decide +kernel, rfl, by decide +kernel, by decide +kernel⟩
theorem ok_pen {f : Addr} {fd : FuncData} (F : Fun K "_law_pen" "_law_pen" sPen f fd) (mList : mg "list" = none) : FnOk P w K mg base CX0 1 f fd ["_law_script"] (spPen K) := by
  refine F.ok scPen (fun vs H Q E h => ?_) (fun cdv A outer s H vs Q E hr h => ?_)
  · obtain ⟨a, ns, rfl, _⟩ := h
    rfl
  · obtain ⟨a, ns, rfl, hS, k⟩ := h
    refine ⟨_, pss_one (ps_ret (pe_disp (pps_cons pe_str (pe_callTy call_list_of (by rfl) mList (by decide +kernel) (pa_cons (pe_slice sl_list (pv 0) po_none (po_some pe_int)) pa_nil))
      (pps_cons pe_str pe_int (pps_cons pe_str pe_int pps_nil))) (by rfl) (by rfl) (fun z => by cases z) (by decide))), ?_⟩
    intro d hd
    have s1 : Same H (upd H d (.dK [])) := fun b o e => by
      rw [upd_ne (ne_of_none e hd)]; exact e
    obtain ⟨ms, em⟩ := cut_ints ns none (some 63)
    refine ⟨_, rfl, 63, rfl, a, _, rfl, s1.seq hS, fun p hp => ⟨p, _, rfl, .inl (SqL.of upd_same), fun l hl => ?_⟩⟩
    have nlp : l ≠ p := fun z => by
      rw [z, upd_same] at hl
      cases hl
    have hl1 : upd H d (.dK []) l = none := by
      rw [upd_ne nlp] at hl; exact hl
    have nld : l ≠ d := fun z => by
      rw [z, upd_same] at hl1
      cases hl1
    have npd : p ≠ d := fun z => by
      rw [z, upd_same] at hp
      cases hp
    have hl0 : H l = none := by
      rw [upd_ne nld] at hl1; exact hl1
    have hp0 : H p = none := by
      rw [upd_ne npd] at hp; exact hp
    refine ⟨by rw [upd_ne (Ne.symm nld), upd_ne (Ne.symm npd), upd_same], pen l 0 0, rfl, by show 3 ≤ 15; decide, ?_⟩
    rw [pen_new]
    refine k d l ms _ hd hl0 (fun b o e => ?_) ⟨upd_same, ?_, Int.le_refl _, Int.le_refl _⟩
    · rw [upd_ne (ne_of_none e hd), upd_ne (ne_of_none e hl0), upd_ne (ne_of_none e hp0), upd_ne (ne_of_none e hd)]
      exact e
    · rw [upd_ne nld, upd_same]
      exact congrArg (fun z => some (HO.lst z)) em
theorem scDraw : FnScope ["_law_held", "_law_many", "_law_found", "_law_at", "_law_cell", "_law_number"] ["_law_held", "_law_many"] (defScope sDraw) := ⟨rfl, rfl, rfl, by decide +kernel, rfl, by decide +kernel, by decide +kernel⟩
theorem eq_nil (ms : List Int) : (!PyData.eqv (.list (ms.map PyData.int)) (.list [])) = !ms.isEmpty := by
  cases ms <;> simp [PyData.eqv, PyData.eqvAll]
theorem dp_ints {H : Hp} : ∀ ms : List Int, DpAll K H (ms.map V.int) (ms.map PyData.int)
  | [] => .nil
  | i :: r => .cons (.int i) (dp_ints r)
theorem shaped_ints (ms : List Int) : SeqAt.shaped (.list (ms.map PyData.int)) = true := by
  have h1 : ∀ ms : List Int, PyData.canLayAll0 (ms.map PyData.int) = true := by
    intro ms
    induction ms with
    | nil => rfl
    | cons a r ih => simp [PyData.canLayAll0, PyData.canLay0, ih]
  have h2 : ∀ ms : List Int, PyData.depthAll (ms.map PyData.int) ≤ 1 := by
    intro ms
    induction ms with
    | nil => simp [PyData.depthAll]
    | cons a r ih => simp [PyData.depthAll, PyData.depth]; omega
  unfold SeqAt.shaped
  have h3 := h2 ms
  simp [PyData.canLay0, PyData.depth, h1]
  omega
theorem ok_draw {f : Addr} {fd : FuncData} (F : Fun K "_law_draw" "_law_draw" sDraw f fd) (mLen : mg "len" = none) : FnOk P w K mg base CX0 1 f fd ["_law_held", "_law_many"] spDraw := by
  refine F.ok scDraw (fun vs H Q E h => ?_) (fun cdv A outer s H vs Q E hr h => ?_)
  · obtain ⟨d, l, ms, n, L, m, rfl, _⟩ := h
    rfl
  · obtain ⟨d, l, ms, n, L, m, rfl, p, hn, hm0, hm1, k⟩ := h
    have hu := hu_of hr
    have nd := scDraw.nd
    refine ⟨_, pss_cons (ps_if (pt_cmpR op_gt (pe_dget hu (pv 0) pe_str (fun _ _ => rfl)) pe_int (nomark _))
        (pss_cons (ps_set (i := 2) nd rfl (Or.inl rfl) (pe_op op_mod (pe_dget hu (pv 0) pe_str (fun _ _ => rfl)) (pv 1)))
        (pss_cons (ps_dput hu (pv 0) pe_str (pe_op op_fdiv (pe_dget hu (pv 0) pe_str (fun _ _ => rfl)) (pv 1)) rfl)
        (pss_one (ps_ret (pv 2))))) pss_nil)
      (pss_cons (ps_set (i := 3) nd rfl (Or.inl rfl) (pe_dget hu (pv 0) pe_str (fun _ _ => rfl)))
      (pss_cons (ps_dput hu (pv 0) pe_str (pe_op op_add (pv 3) pe_int) rfl)
      (pss_cons (ps_set (i := 4) nd rfl (Or.inl rfl) pe_int)
      (pss_cons (ps_if (pt_cmpR (op_neD hr.units) (pe_dget hu (pv 0) pe_str (fun _ _ => rfl)) (pe_lst pa_nil) (nomark _))
        (pss_one (ps_set (i := 4) nd rfl (Or.inl rfl) (pe_ix ix_list (pe_dget hu (pv 0) pe_str (fun _ _ => rfl)) (pe_op op_mod (pv 3) (pe_callB call_len_seq (by rfl) mLen PySem.boot_len (pa_cons (pe_dget hu (pv 0) pe_str (fun _ _ => rfl)) pa_nil))) (fun _ _ => rfl)))) pss_nil)
      (pss_cons (ps_if (PW.pt (pw_and (pt_cmpR op_lt (pv 3) (pe_callB call_len_seq (by rfl) mLen PySem.boot_len (pa_cons (pe_dget hu (pv 0) pe_str (fun _ _ => rfl)) pa_nil)) (nomark _))
          (pw_and1 (pt_cmpR op_ge (pv 4) (pe_op op_pow pe_int pe_int) (nomark _)))))
        (pss_cons (ps_dput hu (pv 0) pe_str (pe_op op_fdiv (pe_op op_sub (pv 4) (pe_op op_pow pe_int pe_int)) (pv 1)) rfl)
        (pss_one (ps_ret (pe_op op_mod (pe_op op_sub (pv 4) (pe_op op_pow pe_int pe_int)) (pv 1))))) pss_nil)
      (pss_cons (ps_set (i := 5) nd rfl (Or.inl rfl) (pe_op op_mod (pe_op op_add (pe_op op_add (pe_op op_add (pe_op op_mul (pe_op op_mod (pv 4) pe_int) pe_int) (pe_op op_mul (pe_op op_mul pe_int (pv 3)) (pv 3))) (pe_op op_mul pe_int (pv 3))) pe_int) pe_int))
      (pss_cons (ps_set (i := 5) nd rfl (Or.inl rfl) (pe_op op_mod (pe_op op_add (pe_op op_add (pe_op op_mul (pv 5) (pv 5)) (pe_op op_mul pe_int (pv 5))) pe_int) pe_int))
      (pss_one (ps_ret (pe_op op_mod (pe_op op_fdiv (pv 5) pe_int) (pv 1))))))))))), ?_⟩
    refine ⟨_, rfl, d, _, rfl, p.gL, _, _, rfl, rfl, _, rfl, ite2 (fun c => ?_) (fun c => ?_)⟩
    · refine ⟨_, rfl, d, _, rfl, p.gL, _, rfl, _, _, rfl, rfl, hm0, ?_⟩
      refine ⟨_, rfl, d, _, rfl, p.gL, _, rfl, _, _, rfl, rfl, ⟨hm0, hm1⟩, _, rfl, d, _, rfl, p.pL _, ?_⟩
      refine ⟨_, rfl, ?_⟩
      exact k _ n _ _ (Int.emod_nonneg _ (by omega)) (Int.emod_lt_of_pos _ hm0) (Int.le_refl _) (by omega) (p.upd' p.n0 (Int.ediv_nonneg p.l0 (by omega))) fun c o e nc => by
        rw [upd_ne nc]; exact e
    · refine ⟨_, rfl, d, _, rfl, p.gA, ?_⟩
      refine ⟨_, rfl, _, _, rfl, rfl, _, rfl, d, _, rfl, p.pA _, ?_⟩
      have p1 : Pen (upd H d (.dK (pen l (n + 1) L))) d l ms (n + 1) L := p.upd' (by have := p.n0; omega) p.l0
      have pw : ((10 : Int).natAbs < 2 ^ 64) := by decide
      refine ⟨_, rfl, d, _, rfl, p1.gC, Nat.zero_le _, fun q hq => ?_⟩
      have p2 : Pen (upd (upd H d (.dK (pen l (n + 1) L))) q (.lst [])) d l ms (n + 1) L :=
        ⟨by rw [upd_ne (ne_of_none p1.dc hq)]; exact p1.dc, by rw [upd_ne (ne_of_none p1.ls hq)]; exact p1.ls, p1.n0, p1.l0⟩
      have keep : ∀ c o, H c = some o → c ≠ d → (upd (upd H d (.dK (pen l (n + 1) L))) q (.lst [])) c = some o := fun c o e nc => by
        have e1 : (upd H d (.dK (pen l (n + 1) L))) c = some o := by rw [upd_ne nc]; exact e
        rw [upd_ne (ne_of_none e1 hq)]
        exact e1
      refine ⟨.list (ms.map PyData.int), .list [], .lst (SqL.of p2.ls) (dp_ints ms), .lst (SqL.of upd_same) .nil, shaped_ints ms, by decide, _, rfl, ite2 (fun c1 => ?_) (fun c1 => ?_)⟩
      · rw [eq_nil] at c1
        have hne : ms ≠ [] := fun z => by
          rw [z] at c1; cases c1
        have hlen : 0 < ms.length := List.length_pos_iff.mpr hne
        have hlen' : (0 : Int) < ((ms.map V.int).length : Int) := by rw [List.length_map]; omega
        have hlt : (n % ((ms.map V.int).length : Int)).toNat < ms.length := by
          have h1 := Int.emod_nonneg n (b := ((ms.map V.int).length : Int)) (by omega)
          have h2 := Int.emod_lt_of_pos n hlen'
          rw [List.length_map] at h1 h2 ⊢
          omega
        have hat : atI (ms.map V.int) (n % ((ms.map V.int).length : Int)) = some (V.int (ms[(n % ((ms.map V.int).length : Int)).toNat]'hlt)) := by
          have h1 := Int.emod_nonneg n (b := ((ms.map V.int).length : Int)) (by omega)
          have h2 : (ms.map V.int)[(n % ((ms.map V.int).length : Int)).toNat]? = some (V.int (ms[(n % ((ms.map V.int).length : Int)).toNat]'hlt)) := by
            rw [List.getElem?_map, List.getElem?_eq_getElem hlt]; rfl
          have h3 := atI_nat h2
          rw [Int.toNat_of_nonneg h1] at h3
          exact h3
        refine ⟨_, rfl, d, _, rfl, p2.gC, _, rfl, _, rfl, d, _, rfl, p2.gC, l, _, rfl, .inl (SqL.of p2.ls), _, _, rfl, rfl, hlen', l, _, _, _, rfl, rfl, SqL.of p2.ls, hat, ?_⟩
        refine ⟨_, rfl, _, rfl, d, _, rfl, p2.gC, l, _, rfl, .inl (SqL.of p2.ls), _, _, rfl, rfl, _, rfl, ite2 (fun c2 => ?_) (fun c2 => ?_)⟩
        · refine ⟨_, rfl, _, _, rfl, rfl, ⟨by decide, by decide, pw⟩, _, _, rfl, rfl, _, rfl, ite2 (fun c3 => ?_) (fun c3 => ?_)⟩
          · have hz := of_decide_eq_true c3
            refine ⟨_, rfl, _, _, rfl, rfl, ⟨by decide, by decide, pw⟩, _, _, rfl, rfl, _, rfl, _, _, rfl, rfl, ⟨hm0, hm1⟩, _, rfl, d, _, rfl, p2.pL _, ?_⟩
            refine ⟨_, rfl, _, _, rfl, rfl, ⟨by decide, by decide, pw⟩, _, _, rfl, rfl, _, rfl, _, _, rfl, rfl, hm0, ?_⟩
            exact k _ (n + 1) _ _ (Int.emod_nonneg _ (by omega)) (Int.emod_lt_of_pos _ hm0) (by omega) (Int.le_refl _) (p2.upd' p2.n0 (Int.ediv_nonneg (by omega) (by omega))) fun c o e nc => by
              rw [upd_ne nc]; exact keep c o e nc
          · skip
            refine ⟨_, rfl, _, _, rfl, rfl, (by show (0 : Int) < 2147483549; decide), _, _, rfl, rfl, .inr ⟨by decide, by decide⟩, _, rfl, _, _, rfl, rfl, .inl ⟨by decide, by decide⟩, _, rfl, _, _, rfl, rfl, .inr ⟨by have := p.n0; omega, by omega⟩, _, _, rfl, rfl, _, rfl, _, _, rfl, rfl, .inl ⟨by decide, by decide⟩, _, _, rfl, rfl, _, _, rfl, rfl, _, _, rfl, rfl, (by show (0 : Int) < 2147483647; decide), ?_⟩
            refine ⟨_, rfl, _, rfl, _, _, rfl, rfl, .inl ⟨Int.lt_of_lt_of_le (by decide) (Int.emod_nonneg _ (by decide)), Int.lt_trans (Int.emod_lt_of_pos _ (by decide)) (by decide)⟩, _, rfl, _, _, rfl, rfl, .inl ⟨by decide, by decide⟩, _, _, rfl, rfl, _, _, rfl, rfl, _, _, rfl, rfl, (by show (0 : Int) < 2147483629; decide), ?_⟩
            refine ⟨_, rfl, _, _, rfl, rfl, ⟨by decide, by decide⟩, _, rfl, _, _, rfl, rfl, hm0, ?_⟩
            exact k _ (n + 1) L _ (Int.emod_nonneg _ (by omega)) (Int.emod_lt_of_pos _ hm0) (by omega) (Int.le_refl _) p2 keep
        · skip
          refine ⟨_, rfl, _, _, rfl, rfl, (by show (0 : Int) < 2147483549; decide), _, _, rfl, rfl, .inr ⟨by decide, by decide⟩, _, rfl, _, _, rfl, rfl, .inl ⟨by decide, by decide⟩, _, rfl, _, _, rfl, rfl, .inr ⟨by have := p.n0; omega, by omega⟩, _, _, rfl, rfl, _, rfl, _, _, rfl, rfl, .inl ⟨by decide, by decide⟩, _, _, rfl, rfl, _, _, rfl, rfl, _, _, rfl, rfl, (by show (0 : Int) < 2147483647; decide), ?_⟩
          refine ⟨_, rfl, _, rfl, _, _, rfl, rfl, .inl ⟨Int.lt_of_lt_of_le (by decide) (Int.emod_nonneg _ (by decide)), Int.lt_trans (Int.emod_lt_of_pos _ (by decide)) (by decide)⟩, _, rfl, _, _, rfl, rfl, .inl ⟨by decide, by decide⟩, _, _, rfl, rfl, _, _, rfl, rfl, _, _, rfl, rfl, (by show (0 : Int) < 2147483629; decide), ?_⟩
          refine ⟨_, rfl, _, _, rfl, rfl, ⟨by decide, by decide⟩, _, rfl, _, _, rfl, rfl, hm0, ?_⟩
          exact k _ (n + 1) L _ (Int.emod_nonneg _ (by omega)) (Int.emod_lt_of_pos _ hm0) (by omega) (Int.le_refl _) p2 keep
      · skip
        refine ⟨_, rfl, _, rfl, d, _, rfl, p2.gC, l, _, rfl, .inl (SqL.of p2.ls), _, _, rfl, rfl, _, rfl, ite2 (fun c2 => ?_) (fun c2 => ?_)⟩
        · refine ⟨_, rfl, _, _, rfl, rfl, ⟨by decide, by decide, pw⟩, _, _, rfl, rfl, _, rfl, ite2 (fun c3 => ?_) (fun c3 => ?_)⟩
          · have hz := of_decide_eq_true c3
            refine ⟨_, rfl, _, _, rfl, rfl, ⟨by decide, by decide, pw⟩, _, _, rfl, rfl, _, rfl, _, _, rfl, rfl, ⟨hm0, hm1⟩, _, rfl, d, _, rfl, p2.pL _, ?_⟩
            refine ⟨_, rfl, _, _, rfl, rfl, ⟨by decide, by decide, pw⟩, _, _, rfl, rfl, _, rfl, _, _, rfl, rfl, hm0, ?_⟩
            exact k _ (n + 1) _ _ (Int.emod_nonneg _ (by omega)) (Int.emod_lt_of_pos _ hm0) (by omega) (Int.le_refl _) (p2.upd' p2.n0 (Int.ediv_nonneg (by omega) (by omega))) fun c o e nc => by
              rw [upd_ne nc]; exact keep c o e nc
          · skip
            refine ⟨_, rfl, _, _, rfl, rfl, (by show (0 : Int) < 2147483549; decide), _, _, rfl, rfl, .inr ⟨by decide, by decide⟩, _, rfl, _, _, rfl, rfl, .inl ⟨by decide, by decide⟩, _, rfl, _, _, rfl, rfl, .inr ⟨by have := p.n0; omega, by omega⟩, _, _, rfl, rfl, _, rfl, _, _, rfl, rfl, .inl ⟨by decide, by decide⟩, _, _, rfl, rfl, _, _, rfl, rfl, _, _, rfl, rfl, (by show (0 : Int) < 2147483647; decide), ?_⟩
            refine ⟨_, rfl, _, rfl, _, _, rfl, rfl, .inl ⟨Int.lt_of_lt_of_le (by decide) (Int.emod_nonneg _ (by decide)), Int.lt_trans (Int.emod_lt_of_pos _ (by decide)) (by decide)⟩, _, rfl, _, _, rfl, rfl, .inl ⟨by decide, by decide⟩, _, _, rfl, rfl, _, _, rfl, rfl, _, _, rfl, rfl, (by show (0 : Int) < 2147483629; decide), ?_⟩
            refine ⟨_, rfl, _, _, rfl, rfl, ⟨by decide, by decide⟩, _, rfl, _, _, rfl, rfl, hm0, ?_⟩
            exact k _ (n + 1) L _ (Int.emod_nonneg _ (by omega)) (Int.emod_lt_of_pos _ hm0) (by omega) (Int.le_refl _) p2 keep
        · skip
          refine ⟨_, rfl, _, _, rfl, rfl, (by show (0 : Int) < 2147483549; decide), _, _, rfl, rfl, .inr ⟨by decide, by decide⟩, _, rfl, _, _, rfl, rfl, .inl ⟨by decide, by decide⟩, _, rfl, _, _, rfl, rfl, .inr ⟨by have := p.n0; omega, by omega⟩, _, _, rfl, rfl, _, rfl, _, _, rfl, rfl, .inl ⟨by decide, by decide⟩, _, _, rfl, rfl, _, _, rfl, rfl, _, _, rfl, rfl, (by show (0 : Int) < 2147483647; decide), ?_⟩
          refine ⟨_, rfl, _, rfl, _, _, rfl, rfl, .inl ⟨Int.lt_of_lt_of_le (by decide) (Int.emod_nonneg _ (by decide)), Int.lt_trans (Int.emod_lt_of_pos _ (by decide)) (by decide)⟩, _, rfl, _, _, rfl, rfl, .inl ⟨by decide, by decide⟩, _, _, rfl, rfl, _, _, rfl, rfl, _, _, rfl, rfl, (by show (0 : Int) < 2147483629; decide), ?_⟩
          refine ⟨_, rfl, _, _, rfl, rfl, ⟨by decide, by decide⟩, _, rfl, _, _, rfl, rfl, hm0, ?_⟩
          exact k _ (n + 1) L _ (Int.emod_nonneg _ (by omega)) (Int.emod_lt_of_pos _ hm0) (by omega) (Int.le_refl _) p2 keep
end
end My

set_option Elab.async false
set_option linter.all false
set_option maxRecDepth 100000
set_option maxHeartbeats 4000000
namespace My
open PySem L2
section
variable {P : Program} {w : World} {K : PySem.W.Frag} {mg : Str → Option Value} {pB : Heap}
/-! ### what is drawn -/
/-- behind some drawing: the pen goes on, all else stands -/
structure Dr (H H' : Hp) (d l : Addr) (ms : List Int) (n n' L' b : Int) : Prop where
  kp : Kp d H H'
  pn : Pen H' d l ms n' L'
  lo : n ≤ n'
  hi : n' ≤ n + b
theorem Dr.trans {H H1 H2 : Hp} {d l : Addr} {ms : List Int} {n n1 n2 L1 L2 b c : Int} (x : Dr H H1 d l ms n n1 L1 b) (y : Dr H1 H2 d l ms n1 n2 L2 c) : Dr H H2 d l ms n n2 L2 (b + c) :=
  ⟨x.kp.trans y.kp, y.pn, Int.le_trans x.lo y.lo, by have := x.hi; have := y.hi; omega⟩
theorem Dr.same {H H1 H2 : Hp} {d l : Addr} {ms : List Int} {n n1 L1 b : Int} (x : Dr H H1 d l ms n n1 L1 b) (s : Same H1 H2) : Dr H H2 d l ms n n1 L1 b :=
  ⟨x.kp.trans (Kp.of s), ⟨s _ _ x.pn.dc, s _ _ x.pn.ls, x.pn.n0, x.pn.l0⟩, x.lo, x.hi⟩
theorem Dr.wk {H H1 : Hp} {d l : Addr} {ms : List Int} {n n1 L1 b c : Int} (x : Dr H H1 d l ms n n1 L1 b) (h : b ≤ c) : Dr H H1 d l ms n n1 L1 c := ⟨x.kp, x.pn, x.lo, by have := x.hi; omega⟩
theorem Dr.refl {H : Hp} {d l : Addr} {ms : List Int} {n L : Int} (p : Pen H d l ms n L) : Dr H H d l ms n n L 0 := ⟨Kp.refl _ _, p, Int.le_refl _, by omega⟩
theorem pen_ne (l : Addr) (n L : Int) : pen l n L ≠ [] := by intro z; cases z
theorem Dr.rep {H H1 : Hp} {d l : Addr} {ms : List Int} {n n1 L L1 b : Int} (x : Dr H H1 d l ms n n1 L1 b) (p : Pen H d l ms n L) {k : Nat} {v : V} {t : PyData} (r : Rep H k v t) : Rep H1 k v t := r.keep p.dc (pen_ne _ _ _) x.kp
/-- one draw, read -/
theorem rd_dr {σ : L2.St} {H : Hp} {Q : VK} {i : Nat} {te : TE} {d l : Addr} {ms : List Int} {n L m : Int} (hσ : σ[i]? = some (some (.ref d))) (ht : ∀ Q' : VK, Q' (.int m) H → te σ H Q') (p : Pen H d l ms n L) (hn : n < 2 ^ 40) (h0 : 0 < m) (h1 : m < 1073741824)
    (h : ∀ (r n' L' : Int) (H' : Hp), 0 ≤ r → r < m → Dr H H' d l ms n n' L' 1 → Q (.int r) H') : tCall spDraw [] E0 (tCons (tVar i) (tCons te tNil)) σ H Q :=
  ⟨_, hσ, ht _ ⟨d, l, ms, n, L, m, rfl, p, hn, h0, h1, fun r n' L' H' r0 r1 a b q k => h r n' L' H' r0 r1 ⟨k, q, a, b⟩⟩⟩
theorem atI_of {α : Type} {xs : List α} {r : Int} (h0 : 0 ≤ r) (h1 : r < (xs.length : Int)) : ∃ x, x ∈ xs ∧ atI xs r = some x ∧ xs[r.toNat]? = some x := by
  have hl : r.toNat < xs.length := by omega
  have e := atI_nat (List.getElem?_eq_getElem hl)
  rw [Int.toNat_of_nonneg h0] at e
  exact ⟨_, List.getElem_mem hl, e, List.getElem?_eq_getElem hl⟩
theorem asg_n {te : TE} {i : Nat} {b : TS} {D : Ends} {σ : L2.St} {H : Hp} (h : te σ H fun x H1 => b D (σ.set i (some x)) H1) : tSeq (tAsg te (gName i)) b D σ H := h
theorem call_of {sp : Sp} {t : TA} {σ : L2.St} {H : Hp} {Q : VK} (h : t σ H fun vs H1 => sp (vs ++ []) H1 Q E0) : tCall sp [] E0 t σ H Q := h
theorem Dr.upd {H H' : Hp} {d l D : Addr} {ms : List Int} {n n' L L' b : Int} {o : HO} (x : Dr H H' d l ms n n' L' b) (p : Pen H d l ms n L) (hD : H D = none) : Dr H (L2.upd H' D o) d l ms n n' L' b :=
  ⟨fun c u e nc => by rw [upd_ne (ne_of_none e hD)]; exact x.kp c u e nc, ⟨by rw [upd_ne (ne_of_none p.dc hD)]; exact x.pn.dc, by rw [upd_ne (ne_of_none p.ls hD)]; exact x.pn.ls, x.pn.n0, x.pn.l0⟩, x.lo, x.hi⟩
theorem Pen.same {H H' : Hp} {d l : Addr} {ms : List Int} {n L : Int} (p : Pen H d l ms n L) (s : Same H H') : Pen H' d l ms n L := ⟨s _ _ p.dc, s _ _ p.ls, p.n0, p.l0⟩
end
end My

set_option Elab.async false
set_option linter.all false
set_option maxRecDepth 100000
set_option maxHeartbeats 4000000
namespace My
open PySem L2
theorem yes_of {σ : L2.St} {H : Hp} {Q : Bool → Hp → Prop} (h : Q true H) : tYes σ H Q := h
theorem nxt_of {a b : TS} {D : Ends} {r : VK} {k c : L2.St → Hp → Prop} {σ : L2.St} {H : Hp} (h : tSeq a b D σ H) : tNext { nx := tSeq a b D, rt := r, bk := k, ct := c } σ H := h
theorem par_of {ta : TA} {i j : Nat} {b : TS} {D : Ends} {σ : L2.St} {H : Hp} (h : ta σ H fun vs H1 => ∃ v w, vs = [v, w] ∧ b D ((σ.set i (some v)).set j (some w)) H1) : tSeq (tPar i j ta) b D σ H := h
theorem np_of {σ : L2.St} {H : Hp} {Q : Option Int → Hp → Prop} (h : Q none H) : tNoPart σ H Q := h
theorem asg_1 {te : TE} {i : Nat} {D : Ends} {σ : L2.St} {H : Hp} (h : te σ H fun x H1 => D.nx (σ.set i (some x)) H1) : tAsg te (gName i) D σ H := h
theorem take_snoc {α : Type} {l : List α} {i : Nat} {x : α} (h : l[i]? = some x) : l.take (i + 1) = l.take i ++ [x] := by
  rw [List.take_add_one, h]; rfl
/-! ### rows of passes -/
def vO : Option Int → V
  | none => .non
  | some i => .int i
def ovd : Option Int → Option Int → Bool
  | some p, some q => decide (q ≤ p)
  | _, _ => false
abbrev Row := List (Option Int)
def at' (r : Row) (k : Nat) : Option Int := r.getD k none
def diff (ps qs : Row) (k : Nat) : Int := (at' ps k).getD 0 - (at' qs k).getD 0
def late (ps qs : Row) (k : Nat) : Bool := ovd (at' ps k) (at' qs k)
def stepB (ps qs : Row) : Option Nat → Nat → Option Nat
  | none, k => some k
  | some j, k => if diff ps qs j < diff ps qs k then some k else some j
def lates (ps qs : Row) (i : Nat) : List Nat := (List.range i).filter (late ps qs)
def bestU (ps qs : Row) (i : Nat) : Option Nat := (lates ps qs i).foldl (stepB ps qs) none
def stand (ps : Row) (k : Nat) : Bool := (at' ps k).isSome
def stands (ps : Row) (i : Nat) : List Nat := (List.range i).filter (stand ps)
def vN : Option Nat → V
  | none => .non
  | some k => .int (k : Nat)
/-- the rank that is due -/
def dueV (ps qs : Row) : V := match bestU ps qs ps.length with
  | some k => .int (k : Nat)
  | none => vN (stands ps ps.length).head?
theorem lates_succ (ps qs : Row) (i : Nat) : lates ps qs (i + 1) = lates ps qs i ++ (if late ps qs i = true then [i] else []) := by
  unfold lates
  rw [List.range_succ, List.filter_append]
  by_cases h : late ps qs i = true
  · rw [if_pos h, List.filter_cons_of_pos h]; rfl
  · rw [if_neg h, List.filter_cons_of_neg h]; rfl
theorem stands_succ (ps : Row) (i : Nat) : stands ps (i + 1) = stands ps i ++ (if stand ps i = true then [i] else []) := by
  unfold stands
  rw [List.range_succ, List.filter_append]
  by_cases h : stand ps i = true
  · rw [if_pos h, List.filter_cons_of_pos h]; rfl
  · rw [if_neg h, List.filter_cons_of_neg h]; rfl
theorem bestU_succ (ps qs : Row) (i : Nat) : bestU ps qs (i + 1) = if late ps qs i = true then stepB ps qs (bestU ps qs i) i else bestU ps qs i := by
  unfold bestU
  rw [lates_succ, List.foldl_append]
  by_cases h : late ps qs i = true
  · rw [if_pos h, if_pos h]; rfl
  · rw [if_neg h, if_neg h]; rfl
theorem at_some {r : Row} {i : Nat} {x : Option Int} (h : r[i]? = some x) : at' r i = x := by
  unfold at'
  rw [List.getD_eq_getElem?_getD, h]; rfl
theorem row_at {r : Row} {i : Nat} {v : V} (h : (r.map vO)[i]? = some v) : v = vO (at' r i) ∧ i < r.length := by
  rw [List.getElem?_map] at h
  obtain ⟨x, hx, rfl⟩ := Option.map_eq_some_iff.mp h
  exact ⟨by rw [at_some hx], (List.getElem?_eq_some_iff.mp hx).1⟩
theorem row_get {r : Row} {i : Nat} (h : i < r.length) : (r.map vO)[i]? = some (vO (at' r i)) := by
  rw [List.getElem?_map, List.getElem?_eq_getElem h, at_some (List.getElem?_eq_getElem h)]; rfl
section
variable {P : Program} {w : World} {K : PySem.W.Frag} {mg : Str → Option Value} {pB : Heap}
abbrev sCho : Stmt := top 1
theorem scCho : FnScope ["passes", "patience", "least", "best", "most", "rank", "many", "bears"] ["passes", "patience"] (defScope sCho) := ⟨rfl, rfl, rfl, by decide +kernel, rfl, by decide +kernel, by decide +kernel⟩
theorem SqX.same {k : Bool} {K : PySem.W.Frag} {H H' : Hp} {a : Addr} {xs : List V} (h : SqX k K H a xs) (s : Same H H') : SqX k K H' a xs := by
  cases k with
  | true => exact s.seq (show SqL K H a xs from h)
  | false =>
    rcases (show SqT K H a xs from h) with (z | ⟨o, z⟩) | z
    · exact .inl (.inl (s _ _ z))
    · exact .inl (.inr ⟨o, s _ _ z⟩)
    · exact .inr z
def spCho (K : PySem.W.Frag) : Sp := fun vs H Q _ => ∃ (ka kb : Bool) (a b : Addr) (ps qs : Row), vs = [.ref a, .ref b] ∧ SqX ka K H a (ps.map vO) ∧ SqX kb K H b (qs.map vO) ∧ ps.length = qs.length ∧ ∀ H', Same H H' → Q (dueV ps qs) H'
/-- how much more than its patience the best rank so far has -/
def mostU (ps qs : Row) (i : Nat) : Int := match bestU ps qs i with
  | some k => diff ps qs k
  | none => -1
theorem best_ge (ps qs : Row) (i : Nat) : ∀ k, bestU ps qs i = some k → 0 ≤ diff ps qs k := by
  induction i with
  | zero => intro k e; cases e
  | succ n ih =>
    intro k e
    rw [bestU_succ] at e
    have ld : ∀ j, late ps qs j = true → 0 ≤ diff ps qs j := by
      intro j h
      unfold late at h
      unfold diff
      cases hp : at' ps j with
      | none => rw [hp] at h; cases h
      | some p =>
        cases hq : at' qs j with
        | none => rw [hp, hq] at h; cases h
        | some q =>
          rw [hp, hq] at h
          have := of_decide_eq_true h
          show 0 ≤ p - q
          omega
    by_cases h : late ps qs n = true
    · rw [if_pos h] at e
      cases hb : bestU ps qs n with
      | none => rw [hb] at e; cases e; exact ld _ h
      | some j =>
        rw [hb, stepB] at e
        by_cases hd : diff ps qs j < diff ps qs n
        · rw [if_pos hd] at e; cases e; exact ld _ h
        · rw [if_neg hd] at e; cases e; exact ih _ hb
    · rw [if_neg h] at e
      exact ih k e
/-- one rank more: with a patience -/
theorem best_step (ps qs : Row) (i : Nat) {p q : Int} (ep : at' ps i = some p) (eq : at' qs i = some q) :
    (mostU ps qs i < p - q → bestU ps qs (i + 1) = some i ∧ mostU ps qs (i + 1) = p - q) ∧ (¬ mostU ps qs i < p - q → bestU ps qs (i + 1) = bestU ps qs i) := by
  have ed : diff ps qs i = p - q := by unfold diff; rw [ep, eq]; rfl
  have el : late ps qs i = decide (q ≤ p) := by unfold late; rw [ep, eq]; rfl
  have eb := bestU_succ ps qs i
  have eu : bestU ps qs (i + 1) = some i → mostU ps qs (i + 1) = p - q := fun h => by unfold mostU; rw [h, ← ed]
  cases hB : bestU ps qs i with
  | none =>
    have em : mostU ps qs i = -1 := by unfold mostU; rw [hB]
    rw [hB, el] at eb
    rw [em]
    refine ⟨fun h => ?_, fun h => ?_⟩
    · rw [if_pos (decide_eq_true (by omega))] at eb
      exact ⟨eb, eu eb⟩
    · rw [if_neg (by simp; omega)] at eb
      exact eb
  | some j =>
    have em : mostU ps qs i = diff ps qs j := by unfold mostU; rw [hB]
    have h0 := best_ge ps qs i j hB
    rw [hB, el] at eb
    rw [em]
    refine ⟨fun h => ?_, fun h => ?_⟩
    · rw [if_pos (decide_eq_true (by omega)), stepB, if_pos (by omega)] at eb
      exact ⟨eb, eu eb⟩
    · by_cases hq : q ≤ p
      · rw [if_pos (decide_eq_true hq), stepB, if_neg (by omega)] at eb
        exact eb
      · rw [if_neg (by simp; omega)] at eb
        exact eb
theorem best_no (ps qs : Row) (i : Nat) (h : late ps qs i = false) : bestU ps qs (i + 1) = bestU ps qs i ∧ mostU ps qs (i + 1) = mostU ps qs i := by
  have eb := bestU_succ ps qs i
  rw [h] at eb
  have eb : bestU ps qs (i + 1) = bestU ps qs i := eb
  exact ⟨eb, by unfold mostU; rw [eb]⟩
theorem most_same {ps qs : Row} {i : Nat} (h : bestU ps qs (i + 1) = bestU ps qs i) : mostU ps qs (i + 1) = mostU ps qs i := by unfold mostU; rw [h]
theorem ok_cho {f : Addr} {fd : FuncData} (F : Fun K "chosen" "chosen" sCho f fd) (mE : mg "enumerate" = none) : FnOk P w K mg pB CX0 1 f fd ["passes", "patience"] (spCho K) := by
  refine F.ok scCho (fun vs H Q E h => ?_) (fun cdv A outer s H vs Q E hr h => ?_)
  · obtain ⟨ka, kb, a, b, ps, qs, rfl, _⟩ := h
    rfl
  · obtain ⟨ka, kb, a, b, ps, qs, rfl, ha, hb, hl, k⟩ := h
    have nd := scCho.nd
    refine ⟨_, pss_cons (ps_set (i := 2) nd rfl (Or.inl rfl) pe_non) (pss_cons (ps_set (i := 3) nd rfl (Or.inl rfl) pe_non) (pss_cons (ps_set (i := 4) nd rfl (Or.inl rfl) (pe_un un_neg pe_int))
      (pss_cons (ps_for PassesOwn.never rfl (pi_ex rfl mE (pv 0)) (pg_tup rfl (pgs_cons (pg_name (i := 5) nd rfl (Or.inl rfl)) (pgs_cons (pg_name (i := 6) nd rfl (Or.inl rfl)) pgs_nil)))
        (pss_cons (ps_if (pt_cmp (pc_isN (pv 6))) (pss_one ps_continue) pss_nil)
        (pss_cons (ps_if (pt_cmp (pc_isN (pv 2))) (pss_one (ps_set (i := 2) nd rfl (Or.inl rfl) (pv 5))) pss_nil)
        (pss_cons (ps_set (i := 7) nd rfl (Or.inl rfl) (pe_ix ix_seq (pv 1) (pv 5) (fun _ _ => rfl)))
        (pss_one (ps_if (PW.pt (pw_and (pt_cmp (pc_notN (pv 7))) (pw_and1 (pt_cmpR op_gt (pe_op op_sub (pv 6) (pv 7)) (pv 4) (nomark _)))))
          (pss_cons (ps_set (i := 3) nd rfl (Or.inl rfl) (pv 5)) (pss_one (ps_set (i := 4) nd rfl (Or.inl rfl) (pe_op op_sub (pv 6) (pv 7))))) pss_nil))))))
      (pss_one (ps_ret (pe_ifExp (pt_cmp (pc_isN (pv 3))) (pv 2) (pv 3))))))), ?_⟩
    refine asg_n (asg_n (asg_n ⟨_, rfl, ?_⟩))
    refine ⟨_, rfl, ka, a, ps.map vO, rfl, ha, for_it walk_ex (fun i σ H2 => ∃ x5 x6 x7 : Option V, σ = [some (.ref a), some (.ref b), some (vN (stands ps i).head?), some (vN (bestU ps qs i)), some (.int (mostU ps qs i)), x5, x6, x7] ∧ Same H H2) ⟨none, none, none, rfl, Same.refl _⟩ ?_ ?_ ?_⟩
    · rintro i σ H2 _ ⟨x5, x6, x7, rfl, s2⟩
      exact ha.same s2
    · rintro i v σ H2 H3 hi ⟨x5, x6, x7, rfl, s2⟩ ⟨T, x, rfl, hT, rfl, hx⟩
      have s3 : Same H2 (L2.upd H2 T (.tup [.int (i : Nat), x])) := Same.new (Same.refl _) hT
      obtain ⟨ex, hlt⟩ := row_at hx
      have ct : (L2.upd H2 T (.tup [.int (i : Nat), x])) T = some (.tup [.int (i : Nat), x]) := upd_same
      generalize L2.upd H2 T (.tup [.int (i : Nat), x]) = H5 at s3 ct ⊢
      subst ex
      have s5 := s2.trans s3
      refine ⟨T, _, rfl, SqT.of ct, rfl, _, _, rfl, _, _, rfl, rfl, ?_⟩
      have es := stands_succ ps i
      cases hp : at' ps i with
      | none =>
        have hst : stand ps i = false := by unfold stand; rw [hp]; rfl
        have hlt : late ps qs i = false := by unfold late; rw [hp]; rfl
        rw [hst] at es
        obtain ⟨e1, e2⟩ := best_no ps qs i hlt
        have es : stands ps (i + 1) = stands ps i := by rw [es]; exact List.append_nil _
        exact ⟨_, rfl, _, rfl, iteT ⟨_, _, _, by rw [es, e1, e2]; rfl, s5⟩⟩
      | some z =>
        have hst : stand ps i = true := by unfold stand; rw [hp]; rfl
        rw [hst, if_pos rfl] at es
        refine ⟨_, rfl, _, rfl, iteF (nxt_of ?_)⟩
        have hbi : SqX kb K H5 b (qs.map vO) := hb.same s5
        have hq : ∀ Q : VK, Q (vO (at' qs i)) H5 → rIx K (.ref b) (.int ((i : Nat) : Int)) H5 Q := fun Q q => by
          have e := row_get (r := qs) (i := i) (by omega)
          cases kb with
          | true => exact .inl ⟨b, _, _, _, rfl, rfl, hbi, atI_nat e, q⟩
          | false => exact .inr (.inl ⟨b, _, _, _, rfl, rfl, hbi, atI_nat e, q⟩)
        cases hs : stands ps i with
        | nil =>
          rw [hs, List.nil_append] at es
          refine ⟨_, rfl, _, rfl, iteT (asg_1 ⟨_, rfl, nxt_of (asg_n ⟨_, rfl, _, rfl, hq _ ?_⟩)⟩)⟩
          cases hqi : at' qs i with
          | none =>
            obtain ⟨e1, e2⟩ := best_no ps qs i (by unfold late; rw [hp, hqi]; rfl)
            exact ⟨_, rfl, _, rfl, iteF (iteF ⟨_, _, _, by rw [es, e1, e2]; rfl, s5⟩)⟩
          | some q =>
            obtain ⟨b1, b2⟩ := best_step ps qs i hp hqi
            refine ⟨_, rfl, _, rfl, iteT ⟨_, rfl, _, rfl, _, _, rfl, rfl, _, rfl, _, _, rfl, rfl, _, rfl, ?_⟩⟩
            by_cases hd : mostU ps qs i < z - q
            · obtain ⟨e1, e2⟩ := b1 hd
              refine iteY hd (asg_n ⟨_, rfl, asg_1 ⟨_, rfl, _, rfl, _, _, rfl, rfl, _, _, _, by rw [es, e1, e2]; rfl, s5⟩⟩)
            · have e1 := b2 hd
              have e2 := most_same e1
              exact iteN hd ⟨_, _, _, by rw [es, e1, e2]; rfl, s5⟩
        | cons h t =>
          have es : (stands ps (i + 1)).head? = some h := by rw [es, hs]; rfl
          refine ⟨_, rfl, _, rfl, iteF (nxt_of (asg_n ⟨_, rfl, _, rfl, hq _ ?_⟩))⟩
          cases hqi : at' qs i with
          | none =>
            obtain ⟨e1, e2⟩ := best_no ps qs i (by unfold late; rw [hp, hqi]; rfl)
            exact ⟨_, rfl, _, rfl, iteF (iteF ⟨_, _, _, by rw [es, e1, e2]; rfl, s5⟩)⟩
          | some q =>
            obtain ⟨b1, b2⟩ := best_step ps qs i hp hqi
            refine ⟨_, rfl, _, rfl, iteT ⟨_, rfl, _, rfl, _, _, rfl, rfl, _, rfl, _, _, rfl, rfl, _, rfl, ?_⟩⟩
            by_cases hd : mostU ps qs i < z - q
            · obtain ⟨e1, e2⟩ := b1 hd
              refine iteY hd (asg_n ⟨_, rfl, asg_1 ⟨_, rfl, _, rfl, _, _, rfl, rfl, _, _, _, by rw [es, e1, e2]; rfl, s5⟩⟩)
            · have e1 := b2 hd
              have e2 := most_same e1
              exact iteN hd ⟨_, _, _, by rw [es, e1, e2]; rfl, s5⟩
    · rintro σ H2 ⟨x5, x6, x7, rfl, s2⟩
      rw [List.length_map]
      have := k H2 s2
      unfold dueV at this
      cases hB : bestU ps qs ps.length with
      | none =>
        rw [hB] at this
        exact ⟨_, rfl, _, rfl, iteT ⟨_, rfl, this⟩⟩
      | some j =>
        rw [hB] at this
        exact ⟨_, rfl, _, rfl, iteF ⟨_, rfl, this⟩⟩
end
end My

set_option Elab.async false
set_option linter.all false
set_option maxRecDepth 100000
set_option maxHeartbeats 4000000
namespace My
open PySem L2
section
variable {P : Program} {w : World} {K : PySem.W.Frag} {mg : Str → Option Value} {pB : Heap}
abbrev sDue : Stmt := top 5
abbrev nDue : List Str := ["_law_row_here", "_law_told", "_law_some", "_law_late", "_law_best", "_law_k"]
theorem scDue : FnScope nDue ["_law_row_here", "_law_told"] (defScope sDue) := ⟨rfl, rfl, rfl, by decide +kernel, rfl, by decide +kernel, by decide +kernel⟩
def spDue : Sp := fun vs H Q _ => ∃ (a b : Addr) (ps qs : Row), vs = [.ref a, .ref b] ∧ H a = some (.lst (ps.map vO)) ∧ H b = some (.lst (qs.map vO)) ∧ ps.length = qs.length ∧ ps.length ≤ 100 ∧ ∀ H', Same H H' → Q (dueV ps qs) H'
abbrev rNN : R2 := fun x y H Q => y = .non ∧ Q (.bl (!decide (x = .non))) H
abbrev nV (k : Nat) : V := .int (k : Nat)
theorem row_ix {r : Row} {k : Nat} (h : k < r.length) : atI (r.map vO) ((k : Nat) : Int) = some (vO (at' r k)) := atI_nat (row_get h)
theorem vO_non (x : Option Int) : (!decide (vO x = .non)) = x.isSome := by cases x <;> rfl
theorem late_lt {ps qs : Row} {k : Nat} (h : late ps qs k = true) : ∃ p q, at' ps k = some p ∧ at' qs k = some q := by
  have h : ovd (at' ps k) (at' qs k) = true := h
  cases hp : at' ps k with
  | none => rw [hp] at h; cases h
  | some p =>
    cases hq : at' qs k with
    | none => rw [hp, hq] at h; cases h
    | some q => exact ⟨p, q, rfl, rfl⟩
theorem ok_due {f : Addr} {fd : FuncData} (F : Fun K "_law_due" "_law_due" sDue f fd) (mR : mg "range" = none) (mLen : mg "len" = none) : FnOk P w K mg pB CX0 1 f fd ["_law_row_here", "_law_told"] spDue := by
  refine F.ok scDue (fun vs H Q E h => ?_) (fun cdv A outer s H vs Q E hr h => ?_)
  · obtain ⟨a, b, ps, qs, rfl, _⟩ := h
    rfl
  · obtain ⟨a, b, ps, qs, rfl, ha, hb, hl, h100, k⟩ := h
    have nd := scDue.nd
    refine ⟨_, pss_cons (ps_setLc (i := 2) (own := [("_law_k", 5)]) (g := gName 5) (tt := tTest (tOp rNN (tOp (rIxL K) (tVar 0) (tVar 5)) (tC .non))) (te := tVar 5) rfl nd rfl rfl (sw_true rfl rfl rfl (by decide +kernel))
          (pi_range1 rfl mR (pa_cons (pe_callB call_len_seq (by rfl) mLen PySem.boot_len (pa_cons (pv 0) pa_nil)) pa_nil)) (blkOk_by (N := nDue) (sc := defScope sDue) (by decide +kernel)) (fun _ _ _ _ _ => pg_name (i := 5) nd rfl (Or.inl rfl) (Or.inr rfl))
          (fun _ _ _ _ _ => pts_one (pt_cmpR op_notN (pe_ix ix_list (pv 0) (pv 5) (fun _ _ => rfl)) pe_non (nomark _))) (fun _ _ _ _ _ => pv 5))
      (pss_cons (ps_setLc (i := 3) (own := [("_law_k", 5)]) (g := gName 5) (tt := tAnd (tTest (tOp rNN (tOp (rIxL K) (tVar 1) (tVar 5)) (tC .non))) (tTest (tOp (rI0 fun i j => .bl (decide (j ≤ i))) (tOp (rIxL K) (tVar 0) (tVar 5)) (tOp (rIxL K) (tVar 1) (tVar 5))))) (te := tVar 5) rfl nd rfl rfl (sw_true rfl rfl rfl (by decide +kernel))
          (pi_list (pv 2)) (blkOk_by (N := nDue) (sc := defScope sDue) (by decide +kernel)) (fun _ _ _ _ _ => pg_name (i := 5) nd rfl (Or.inl rfl) (Or.inr rfl))
          (fun _ _ _ _ _ => pts_one (PW.pt (pw_and (pt_cmpR op_notN (pe_ix ix_list (pv 1) (pv 5) (fun _ _ => rfl)) pe_non (nomark _)) (pw_and1 (pt_cmpR op_ge (pe_ix ix_list (pv 0) (pv 5) (fun _ _ => rfl)) (pe_ix ix_list (pv 1) (pv 5) (fun _ _ => rfl)) (nomark _)))))) (fun _ _ _ _ _ => pv 5))
      (pss_cons (ps_set (i := 4) nd rfl (Or.inl rfl) pe_non)
      (pss_cons (ps_for PassesOwn.never rfl (pi_list (pv 3)) (pg_name (i := 5) nd rfl (Or.inl rfl))
        (pss_one (ps_if (PW.pt (pw_or (pt_cmp (pc_isN (pv 4))) (pw_or1 (pt_cmpR op_gt (pe_op op_sub (pe_ix ix_list (pv 0) (pv 5) (fun _ _ => rfl)) (pe_ix ix_list (pv 1) (pv 5) (fun _ _ => rfl))) (pe_op op_sub (pe_ix ix_list (pv 0) (pv 4) (fun _ _ => rfl)) (pe_ix ix_list (pv 1) (pv 4) (fun _ _ => rfl))) (nomark _)))))
          (pss_one (ps_set (i := 4) nd rfl (Or.inl rfl) (pv 5))) pss_nil)))
      (pss_one (ps_ret (pe_ifExp (pt_cmp (pc_notN (pv 4))) (pv 4) (pe_ix ix_list (pe_op op_cat (pv 2) (pe_lst (pa_cons pe_non pa_nil))) pe_int (fun _ _ => rfl)))))))), ?_⟩
    have hz100 : (100 : Nat) < sizeLine := by decide
    refine ⟨_, rfl, a, _, rfl, .inl (SqL.of ha), _, rfl, by omega, by rw [List.length_map]; omega, fun D1 hD1 => ?_⟩
    have elen : (((ps.map vO).length : Nat) : Int).toNat = ps.length := by rw [List.length_map]; omega
    have lenS : ∀ i, i ≤ ps.length → ((stands ps i).map nV).length < sizeLine := fun i hi => by
      rw [List.length_map]
      exact Nat.lt_of_le_of_lt (List.length_filter_le _ _) (by rw [List.length_range]; omega)
    refine lc_range (lo := 0) (n := (((ps.map vO).length : Nat) : Int).toNat) (fun i H' => Same H H' ∧ H' D1 = some (.lst ((stands ps i).map nV))) ⟨Same.new (Same.refl _) hD1, upd_same⟩ (fun i H1 hi p => ?_) (fun H1 p => ?_)
    · obtain ⟨s1, c1⟩ := p
      rw [elen] at hi
      rw [Int.zero_add]
      refine ⟨rfl, _, rfl, _, rfl, a, _, _, _, rfl, rfl, SqL.of (s1 _ _ ha), row_ix hi, rfl, _, rfl, ?_⟩
      rw [vO_non]
      have es := stands_succ ps i
      by_cases hst : (at' ps i).isSome = true
      · rw [hst]
        refine iteT ⟨_, rfl, _, c1, lenS i (by omega), fun b o e => ?_, ?_⟩
        · rw [upd_ne (ne_of_none e hD1)]; exact s1 b o e
        · rw [upd_same, es, if_pos (show stand ps i = true from hst), List.map_append]; rfl
      · rw [Bool.not_eq_true] at hst
        rw [hst]
        refine iteF ⟨s1, ?_⟩
        rw [es, if_neg (show ¬ stand ps i = true by unfold stand; rw [hst]; decide), List.append_nil]
        exact c1
    obtain ⟨s1, c1⟩ := p
    rw [elen] at c1
    have mS : ∀ j ∈ stands ps ps.length, j < ps.length := fun j hj => List.mem_range.mp (List.mem_filter.mp hj).1
    refine ⟨_, rfl, D1, rfl, ⟨_, SqL.of c1⟩, fun D2 hD2 => ?_⟩
    have lenL : ∀ l : List Nat, (l.filter (late ps qs)).length ≤ l.length := fun l => List.length_filter_le _ _
    refine lc_list (K := K) (xs := (stands ps ps.length).map nV) (fun i H' => Same H1 H' ∧ H' D2 = some (.lst ((((stands ps ps.length).take i).filter (late ps qs)).map nV))) ⟨Same.new (Same.refl _) hD2, upd_same⟩ (fun i H' _ p => SqL.of (p.1 _ _ c1)) (fun i x H2 hx p => ?_) (fun H2 p => ?_)
    · obtain ⟨s2, c2⟩ := p
      rw [List.getElem?_map] at hx
      obtain ⟨j, hj, rfl⟩ := Option.map_eq_some_iff.mp hx
      have hjl := mS j (List.mem_of_getElem? hj)
      have hja := List.mem_filter.mp (List.mem_of_getElem? hj)
      have s02 := s1.trans s2
      have ll : ((((stands ps ps.length).take i).filter (late ps qs)).map nV).length < sizeLine := by
        rw [List.length_map]
        have h1 := lenL ((stands ps ps.length).take i)
        have h2 : ((stands ps ps.length).take i).length ≤ (stands ps ps.length).length := List.length_take_le' _ _
        have h3 : (stands ps ps.length).length ≤ ps.length := by
          have := List.length_filter_le (stand ps) (List.range ps.length)
          rw [List.length_range] at this
          exact this
        omega
      have yes : late ps qs j = true → ∃ acc, H2 D2 = some (.lst acc) ∧ acc.length < sizeLine ∧ (Same H1 (L2.upd H2 D2 (.lst (acc ++ [nV j]))) ∧ (L2.upd H2 D2 (.lst (acc ++ [nV j]))) D2 = some (.lst ((((stands ps ps.length).take (i + 1)).filter (late ps qs)).map nV))) := fun hlt => by
        refine ⟨_, c2, ll, fun b o e => ?_, ?_⟩
        · rw [upd_ne (ne_of_none e hD2)]; exact s2 b o e
        · rw [upd_same, take_snoc hj, List.filter_append, List.filter_cons_of_pos hlt, List.map_append]; rfl
      have no : late ps qs j = false → Same H1 H2 ∧ H2 D2 = some (.lst ((((stands ps ps.length).take (i + 1)).filter (late ps qs)).map nV)) := fun hlt => by
        refine ⟨s2, ?_⟩
        rw [take_snoc hj, List.filter_append, List.filter_cons_of_neg (by rw [hlt]; decide), List.filter_nil, List.append_nil]
        exact c2
      obtain ⟨pj, ep⟩ : ∃ p, at' ps j = some p := Option.isSome_iff_exists.mp hja.2
      refine ⟨rfl, _, rfl, _, rfl, b, _, _, _, rfl, rfl, SqL.of (s02 _ _ hb), row_ix (by omega), rfl, _, rfl, ?_⟩
      rw [vO_non]
      cases eq : at' qs j with
      | none => exact iteF (iteF (no (by show ovd (at' ps j) (at' qs j) = false; rw [ep, eq]; rfl)))
      | some qj =>
        refine iteT ⟨_, rfl, _, rfl, a, _, _, _, rfl, rfl, SqL.of (s02 _ _ ha), row_ix hjl, _, rfl, _, rfl, b, _, _, _, rfl, rfl, SqL.of (s02 _ _ hb), row_ix (by omega), ?_⟩
        rw [ep, eq]
        refine ⟨_, _, rfl, rfl, _, rfl, ?_⟩
        have elt : late ps qs j = decide (qj ≤ pj) := by show ovd (at' ps j) (at' qs j) = _; rw [ep, eq]; rfl
        by_cases hd : qj ≤ pj
        · rw [decide_eq_true hd] at elt ⊢
          exact iteT ⟨_, rfl, yes elt⟩
        · rw [decide_eq_false hd] at elt ⊢
          exact iteF (no elt)
    obtain ⟨s2, c2⟩ := p
    rw [List.length_map, List.take_length] at c2
    have e3 : (stands ps ps.length).filter (late ps qs) = lates ps qs ps.length := by
      unfold stands lates
      rw [List.filter_filter]
      refine congrArg (fun g => List.filter g (List.range ps.length)) (funext fun j => ?_)
      cases hlt : late ps qs j with
      | false => rfl
      | true =>
        obtain ⟨p, q, ep, _⟩ := late_lt hlt
        show (true && stand ps j) = true
        unfold stand; rw [ep]; rfl
    rw [e3] at c2
    have s02 := s1.trans s2
    have c12 := s2 _ _ c1
    have mL : ∀ j ∈ lates ps qs ps.length, j < ps.length ∧ late ps qs j = true := fun j hj => ⟨List.mem_range.mp (List.mem_filter.mp hj).1, (List.mem_filter.mp hj).2⟩
    refine ⟨_, rfl, D2, rfl, ⟨_, SqL.of c2⟩, for_list (xs := (lates ps qs ps.length).map nV) (fun i σ H3 => ∃ x5 : Option V, σ = [some (.ref a), some (.ref b), some (.ref D1), some (.ref D2), some (vN (((lates ps qs ps.length).take i).foldl (stepB ps qs) none)), x5] ∧ Same H2 H3 ∧ ∀ j, ((lates ps qs ps.length).take i).foldl (stepB ps qs) none = some j → j < ps.length ∧ late ps qs j = true) ?_ ?_ ?_ ?_⟩
    · exact ⟨_, rfl, Same.refl _, fun j e => by cases e⟩
    · rintro i σ H3 _ ⟨x5, rfl, s3, _⟩
      exact SqL.of (s3 _ _ c2)
    · rintro i x σ H3 hx ⟨x5, rfl, s3, hB⟩
      rw [List.getElem?_map] at hx
      obtain ⟨j, hj, rfl⟩ := Option.map_eq_some_iff.mp hx
      obtain ⟨hjl, hjt⟩ := mL j (List.mem_of_getElem? hj)
      obtain ⟨pj, qj, epj, eqj⟩ := late_lt hjt
      have edj : diff ps qs j = pj - qj := by unfold diff; rw [epj, eqj]; rfl
      have ha3 := s3 _ _ (s02 _ _ ha)
      have hb3 := s3 _ _ (s02 _ _ hb)
      have et : ((lates ps qs ps.length).take (i + 1)).foldl (stepB ps qs) none = stepB ps qs (((lates ps qs ps.length).take i).foldl (stepB ps qs) none) j := by
        rw [take_snoc hj, List.foldl_append]; rfl
      cases hb0 : ((lates ps qs ps.length).take i).foldl (stepB ps qs) none with
      | none =>
        rw [hb0] at et
        refine ⟨_, rfl, _, rfl, iteT (iteT (asg_1 ⟨_, rfl, _, by rw [et]; rfl, s3, fun j' e => ?_⟩))⟩
        rw [et] at e
        cases e
        exact ⟨hjl, hjt⟩
      | some m =>
        rw [hb0] at et
        obtain ⟨hml, hmt⟩ := hB m hb0
        obtain ⟨pm, qm, epm, eqm⟩ := late_lt hmt
        have edm : diff ps qs m = pm - qm := by unfold diff; rw [epm, eqm]; rfl
        refine ⟨_, rfl, _, rfl, iteF ?_⟩
        refine ⟨_, rfl, _, rfl, a, _, _, _, rfl, rfl, SqL.of ha3, row_ix hjl, _, rfl, _, rfl, b, _, _, _, rfl, rfl, SqL.of hb3, row_ix (by omega), ?_⟩
        rw [epj, eqj]
        refine ⟨_, _, rfl, rfl, _, rfl, _, rfl, a, _, _, _, rfl, rfl, SqL.of ha3, row_ix hml, _, rfl, _, rfl, b, _, _, _, rfl, rfl, SqL.of hb3, row_ix (by omega), ?_⟩
        rw [epm, eqm]
        refine ⟨_, _, rfl, rfl, _, _, rfl, rfl, _, rfl, ?_⟩
        by_cases hd : diff ps qs m < diff ps qs j
        · rw [stepB, if_pos hd] at et
          refine iteY (by rw [← edm, ← edj]; exact hd) (asg_1 ⟨_, rfl, _, by rw [et]; rfl, s3, fun j' e => ?_⟩)
          rw [et] at e
          cases e
          exact ⟨hjl, hjt⟩
        · rw [stepB, if_neg hd] at et
          refine iteN (by rw [← edm, ← edj]; exact hd) ⟨_, by rw [et]; rfl, s3, fun j' e => ?_⟩
          rw [et] at e
          cases e
          exact ⟨hml, hmt⟩
    · rintro σ H3 ⟨x5, rfl, s3, hB⟩
      rw [List.length_map, List.take_length]
      have s03 := s02.trans s3
      cases hb0 : bestU ps qs ps.length with
      | some m =>
        have hb1 : (lates ps qs ps.length).foldl (stepB ps qs) none = some m := hb0
        rw [hb1]
        refine ⟨_, rfl, _, rfl, iteT ⟨_, rfl, ?_⟩⟩
        have := k H3 s03
        unfold dueV at this
        rw [hb0] at this
        exact this
      | none =>
        have hb1 : (lates ps qs ps.length).foldl (stepB ps qs) none = none := hb0
        rw [hb1]
        refine ⟨_, rfl, _, rfl, iteF ⟨_, rfl, by show 1 ≤ sizeLine; decide, fun l1 hl1 => ?_⟩⟩
        have s4 : Same H3 (L2.upd H3 l1 (.lst [.non])) := Same.new (Same.refl _) hl1
        refine ⟨D1, l1, _, _, rfl, rfl, s4 _ _ (s3 _ _ c12), upd_same, ?_, fun l2 hl2 => ?_⟩
        · have := lenS ps.length (Nat.le_refl _)
          show _ + 1 ≤ sizeLine
          omega
        have s5 : Same (L2.upd H3 l1 (.lst [.non])) (L2.upd (L2.upd H3 l1 (.lst [.non])) l2 (.lst ((stands ps ps.length).map nV ++ [.non]))) := Same.new (Same.refl _) hl2
        have kk := k _ (s03.trans (s4.trans s5))
        unfold dueV at kk
        rw [hb0] at kk
        refine ⟨l2, _, _, _, rfl, rfl, SqL.of upd_same, ?_, kk⟩
        cases hst : stands ps ps.length with
        | nil => exact atI_nat (j := 0) rfl
        | cons j r => exact atI_nat (j := 0) rfl
end
end My

set_option Elab.async false
set_option linter.all false
set_option maxRecDepth 100000
set_option maxHeartbeats 4000000
namespace My
open PySem L2
/-- repr of None or a small number -/
def rpV : V → Str
  | .int i => toString i
  | _ => "None"
theorem call_rpn {X : Cx} : CallR X (.builtin "repr") (fun xs H Q => ∃ x, xs = [x] ∧ (x = .non ∨ ∃ i : Nat, x = .int (i : Int) ∧ i < 1000) ∧ Q (.str (rpV x)) H) := by
  intro pins s σ H xs us Q I r h
  obtain ⟨x, rfl, hx, q⟩ := h
  obtain ⟨u, rfl, ru⟩ := vals1 r
  rcases hx with rfl | ⟨i, rfl, hi⟩
  · cases (show u = Value.none from ru)
    exact PySem.P.repr_of_none ⟨.str _, H, I.tok _, ⟨_, rfl⟩, q⟩
  · obtain ⟨t, rfl⟩ := ru
    refine PySem.P.repr_of_int ?_ ⟨.str _, H, I.tok _, ⟨_, rfl⟩, q⟩
    rw [Int.natAbs_natCast]
    by_cases h0 : i = 0
    · subst h0; decide
    · exact (Nat.log2_lt h0).mpr (Nat.lt_of_lt_of_le hi (by decide))
theorem best_lt (ps qs : Row) (n : Nat) : ∀ k, bestU ps qs n = some k → k < n := by
  induction n with
  | zero => intro k e; cases e
  | succ n ih =>
    intro k e
    rw [bestU_succ] at e
    by_cases h : late ps qs n = true
    · rw [if_pos h] at e
      cases hb : bestU ps qs n with
      | none => rw [hb] at e; cases e; omega
      | some j =>
        rw [hb, stepB] at e
        have := ih j hb
        split at e <;> cases e <;> omega
    · rw [if_neg h] at e
      have := ih k e
      omega
theorem due_nat (ps qs : Row) (h : ps.length ≤ 100) : dueV ps qs = .non ∨ ∃ i : Nat, dueV ps qs = .int (i : Int) ∧ i < 1000 := by
  unfold dueV
  cases hb : bestU ps qs ps.length with
  | some k => exact .inr ⟨k, rfl, by have := best_lt ps qs _ k hb; omega⟩
  | none =>
    cases hs : (stands ps ps.length).head? with
    | none => exact .inl rfl
    | some k =>
      refine .inr ⟨k, rfl, ?_⟩
      have h1 := List.mem_of_mem_head? (by rw [hs]; rfl : k ∈ (stands ps ps.length).head?)
      have := List.mem_range.mp (List.mem_filter.mp h1).1
      omega
theorem due_scal (ps qs : Row) (h : ps.length ≤ 100) : scal (dueV ps qs) (dueV ps qs) = true := by
  rcases due_nat ps qs h with e | ⟨i, e, _⟩ <;> rw [e] <;> rfl
/-! ### rows as data -/
def dO : Option Int → PyData
  | none => .none
  | some i => .int i
section
variable {P : Program} {w : World} {K : PySem.W.Frag} {mg : Str → Option Value} {pB : Heap}
theorem dp_row {H : Hp} : ∀ r : Row, DpAll K H (r.map vO) (r.map dO)
  | [] => .nil
  | none :: r => .cons .non (dp_row r)
  | some i :: r => .cons (.int i) (dp_row r)
theorem shaped_row (r : Row) : SeqAt.shaped (.list (r.map dO)) = true := by
  have h1 : ∀ r : Row, PyData.canLayAll0 (r.map dO) = true := by
    intro r
    induction r with
    | nil => rfl
    | cons a r ih => cases a <;> simp [PyData.canLayAll0, PyData.canLay0, ih, dO]
  have h2 : ∀ r : Row, PyData.depthAll (r.map dO) ≤ 1 := by
    intro r
    induction r with
    | nil => simp [PyData.depthAll]
    | cons a r ih => cases a <;> simp [PyData.depthAll, PyData.depth, dO] <;> omega
  unfold SeqAt.shaped
  have h3 := h2 r
  simp [PyData.canLay0, PyData.depth, h1]
  omega
abbrev sRow : Stmt := top 6
theorem scRow : FnScope ["_law_held", "_law_many", "_law_far", "_law_k"] ["_law_held", "_law_many", "_law_far"] (defScope sRow) := ⟨rfl, rfl, rfl, by decide +kernel, rfl, by decide +kernel, by decide +kernel⟩
def spRow : Sp := fun vs H Q _ => ∃ (d l : Addr) (ms : List Int) (n L : Int) (many : Nat) (far : Int), vs = [.ref d, .int (many : Int), .int far] ∧ Pen H d l ms n L ∧ n < 2 ^ 38 ∧ many ≤ 6 ∧ 0 < far ∧ far ≤ 400 ∧
  ∀ (a : Addr) (ps : Row) (n' L' : Int) (H' : Hp), Dr H H' d l ms n n' L' 18 → H' a = some (.lst (ps.map vO)) → ps.length = many → Q (.ref a) H'
theorem vO_mem {v : V} {i j : Int} (h : v ∈ [V.non, V.int i, V.int j]) : ∃ o, v = vO o := by
  simp only [List.mem_cons, List.mem_nil_iff, or_false] at h
  rcases h with rfl | rfl | rfl
  · exact ⟨none, rfl⟩
  · exact ⟨some _, rfl⟩
  · exact ⟨some _, rfl⟩
theorem ok_row {f fD : Addr} {fd dD : FuncData} (F : Fun K "_law_row" "_law_row" sRow f fd)
    (GD : FnOk P w K mg pB CX0 1 fD dD ["_law_held", "_law_many"] spDraw) (mD : mg "_law_draw" = some (.ref fD)) (kD : PySem.W.keepIn K (.ref fD) = true) (bD : Binds K dD ["_law_held", "_law_many"] []) (mR : mg "range" = none) : FnOk P w K mg pB CX0 2 f fd ["_law_held", "_law_many", "_law_far"] spRow := by
  refine F.ok scRow (fun vs H Q E h => ?_) (fun cdv A outer s H vs Q E hr h => ?_)
  · obtain ⟨d, l, ms, n, L, many, far, rfl, _⟩ := h
    rfl
  · obtain ⟨d, l, ms, n, L, many, far, rfl, p, hn, hm, hf0, hf1, k⟩ := h
    have nd := scRow.nd
    refine ⟨_, pss_one (ps_ret (pe_lc (own := [("_law_k", 3)]) (g := gName 3) (tt := tYes) (te := tOp (rIxL K) (tLst (tCons (tC .non) (tCons (tCall spDraw [] E0 (tCons (tVar 0) (tCons (tVar 2) tNil))) (tCons (tCall spDraw [] E0 (tCons (tVar 0) (tCons (tC (.int 3)) tNil))) tNil)))) (tCall spDraw [] E0 (tCons (tVar 0) (tCons (tC (.int 3)) tNil)))) rfl nd
        (pi_range1 rfl mR (pa_cons (pv 1) pa_nil)) (blkOk_by (N := ["_law_held", "_law_many", "_law_far", "_law_k"]) (sc := defScope sRow) (by decide +kernel)) (fun _ _ _ _ _ => pg_name (i := 3) nd rfl (Or.inl rfl) (Or.inr rfl)) (fun _ _ _ _ _ => pts_nil)
        (fun _ _ _ _ _ => pe_ix ix_list (pe_lst (pa_cons pe_non (pa_cons (pe_call GD hr rfl mD kD bD .nil pass0 (pa_cons (pv 0) (pa_cons (pv 2) pa_nil))) (pa_cons (pe_call GD hr rfl mD kD bD .nil pass0 (pa_cons (pv 0) (pa_cons pe_int pa_nil))) pa_nil)))) (pe_call GD hr rfl mD kD bD .nil pass0 (pa_cons (pv 0) (pa_cons pe_int pa_nil))) (fun _ _ => rfl)))), ?_⟩
    refine ⟨_, rfl, _, rfl, by omega, by omega, fun D hD => ?_⟩
    refine lc_range (lo := 0) (n := ((many : Nat) : Int).toNat) (fun i H' => ∃ (n' L' : Int) (ps : Row), Dr H H' d l ms n n' L' ((i : Int) * 3) ∧ ps.length = i ∧ H' D = some (.lst (ps.map vO)))
      ⟨n, L, [], ((Dr.refl p).same (Same.new (Same.refl _) hD)).wk (by simp), rfl, upd_same⟩ (fun i H1 hi q => ?_) (fun H1 q => ?_)
    · obtain ⟨n1, L1, ps, x1, hl, c1⟩ := q
      have h1 := x1.hi
      have hD1 : D ≠ d := ne_of c1 x1.pn.dc (by intro z; cases z)
      refine ⟨rfl, yes_of (iteT ?_)⟩
      refine rd_dr (m := far) rfl (fun _ h => ⟨_, rfl, h⟩) x1.pn (by omega) hf0 (by omega) fun r2 n2 M2 H2 _ _ x2 => ?_
      have h2 := x2.hi
      refine rd_dr (m := 3) rfl (fun _ h => h) x2.pn (by omega) (by decide) (by decide) fun r3 n3 L3 H3 _ _ x3 => ⟨by show 3 ≤ sizeLine; decide, fun u hu => ?_⟩
      have h3 := x3.hi
      have s4 : Same H3 (L2.upd H3 u (.lst [.non, .int r2, .int r3])) := Same.new (Same.refl _) hu
      refine rd_dr (m := 3) rfl (fun _ h => h) (x3.pn.same s4) (by omega) (by decide) (by decide) fun r4 n4 L4 H4 c0 c1' x4 => ?_
      have cu := x4.kp _ _ (upd_same (H := H3) (a := u) (o := .lst [.non, .int r2, .int r3])) (ne_of upd_same (x3.pn.same s4).dc (by intro z; cases z))
      obtain ⟨v, hv, hat, _⟩ := atI_of (xs := [V.non, V.int r2, V.int r3]) c0 c1'
      obtain ⟨o, rfl⟩ := vO_mem hv
      have y := (x1.trans (x2.trans ((x3.same s4).trans x4)))
      have c4 := x4.kp _ _ (s4 _ _ (x3.kp _ _ (x2.kp _ _ c1 hD1) hD1)) hD1
      refine ⟨u, _, _, _, rfl, rfl, SqL.of cu, hat, _, c4, by rw [List.length_map]; exact Nat.lt_of_le_of_lt (show ps.length ≤ 6 by omega) (by decide), n4, L4, ps ++ [o], (y.upd p hD).wk (by omega), by rw [List.length_append, hl]; rfl, by rw [List.map_append]; exact upd_same⟩
    · obtain ⟨n1, L1, ps, x1, hl, c1⟩ := q
      exact k D ps n1 L1 H1 (x1.wk (by omega)) c1 (by omega)
end
end My

set_option Elab.async false
set_option linter.all false
set_option maxRecDepth 100000
set_option maxHeartbeats 4000000
namespace My
open PySem L2
section
variable {P : Program} {w : World} {K : PySem.W.Frag} {mg : Str → Option Value} {pB : Heap}
def spLaw (K : PySem.W.Frag) : Sp := fun vs H Q _ => ∃ (a : Addr) (ns : List Int), vs = [.ref a] ∧ SqL K H a (ns.map V.int) ∧ ∀ H', Q (.bl true) H'
abbrev sLaw : Stmt := top 7
abbrev nLaw : List Str := ["_law_script", "_law_held", "_law_turn", "_law_many", "_law_row_here", "_law_told", "_law_at", "_law_kind", "_law_near", "_law_other", "_law_one", "_law_two", "_law_some", "_law_more"]
theorem scLaw : FnScope nLaw ["_law_script"] (defScope sLaw) := ⟨rfl, rfl, rfl, by decide +kernel, rfl, by decide +kernel, by decide +kernel⟩
/-- a pair of rows -/
def PairOk (H : Hp) (v : V) : Prop := ∃ (t a b : Addr) (ps qs : Row), v = .ref t ∧ H t = some (.tup [.ref a, .ref b]) ∧ H a = some (.lst (ps.map vO)) ∧ H b = some (.lst (qs.map vO)) ∧ ps.length = qs.length ∧ ps.length ≤ 6
theorem PairOk.same {H H' : Hp} {v : V} (h : PairOk H v) (s : Same H H') : PairOk H' v := by
  obtain ⟨t, a, b, ps, qs, e, h1, h2, h3, h4⟩ := h
  exact ⟨t, a, b, ps, qs, e, s _ _ h1, s _ _ h2, s _ _ h3, h4⟩
theorem non_row (n : Nat) : (List.replicate n [V.non]).flatten = (List.replicate n (none : Option Int)).map vO := by
  induction n with
  | zero => rfl
  | succ n ih => rw [List.replicate_succ, List.flatten_cons, ih, List.replicate_succ]; rfl
theorem cut_row (r : Row) (lo hi : Option Int) : ∃ m : Row, cutV (r.map vO) lo hi = m.map vO ∧ m.length = (cutV (r.map vO) lo hi).length := by
  unfold cutV
  refine ⟨(r.drop (HT.sIx (r.map vO).length 0 lo)).take (HT.sIx (r.map vO).length (r.map vO).length hi - HT.sIx (r.map vO).length 0 lo), ?_, ?_⟩
  · rw [List.map_take, List.map_drop]
  · rw [List.length_take, List.length_drop, List.length_take, List.length_drop, List.length_map]
theorem cut_to (xs : List V) {k : Int} (h0 : 0 ≤ k) (h1 : k ≤ xs.length) : cutV xs none (some k) = xs.take k.toNat := by
  unfold cutV
  rw [HT.sIx_none, List.drop_zero, Nat.sub_zero]
  have e : HT.sIx xs.length xs.length (some k) = k.toNat := by
    show (if k < 0 then _ else min k.toNat xs.length) = _
    rw [if_neg (by omega)]; omega
  rw [e]
theorem cut_from (xs : List V) {k : Int} (h0 : 0 ≤ k) (h1 : k ≤ xs.length) : cutV xs (some k) none = xs.drop k.toNat := by
  unfold cutV
  have e : HT.sIx xs.length 0 (some k) = k.toNat := by
    show (if k < 0 then _ else min k.toNat xs.length) = _
    rw [if_neg (by omega)]; omega
  rw [HT.sIx_none, e, List.take_of_length_le]
  rw [List.length_drop]; omega
/-- row[:at] + [[None, draw][draw]] + row[at + 1:] -/
theorem rd_splice {σ : L2.St} {H : Hp} {Q : VK} {i : Nat} {a d l : Addr} {ms : List Int} {n L m : Int} {at0 : Nat} {ps : Row} (hσ : σ[i]? = some (some (.ref a))) (h6 : σ[6]? = some (some (.int (at0 : Int)))) (h1 : σ[1]? = some (some (.ref d)))
    (ha : H a = some (.lst (ps.map vO))) (p : Pen H d l ms n L) (hn : n < 2 ^ 39) (hm0 : 0 < m) (hm1 : m < 1000) (hat : at0 < ps.length) (hl : ps.length ≤ 6)
    (k : ∀ (q : Addr) (r : Row) (n' L' : Int) (H' : Hp), Dr H H' d l ms n n' L' 2 → H' q = some (.lst (r.map vO)) → r.length = ps.length → Q (.ref q) H') :
    tOp rCat (tOp rCat (tSl (rSlL K) (tVar i) tNoPart (tPart (tVar 6))) (tLst (tCons (tOp (rIxL K) (tLst (tCons (tC .non) (tCons (tCall spDraw [] E0 (tCons (tVar 1) (tCons (tC (.int m)) tNil))) tNil))) (tCall spDraw [] E0 (tCons (tVar 1) (tCons (tC (.int 2)) tNil)))) tNil)))
      (tSl (rSlL K) (tVar i) (tPart (tOp (rI0 fun i j => .int (i + j)) (tVar 6) (tC (.int 1)))) tNoPart) σ H Q := by
  refine ⟨_, hσ, np_of ⟨_, h6, _, rfl, a, _, rfl, SqL.of ha, fun q1 hq1 => ?_⟩⟩
  rw [cut_to _ (by omega) (by rw [List.length_map]; omega)]
  have s1 : Same H (L2.upd H q1 (.lst ((ps.map vO).take (at0 : Int).toNat))) := Same.new (Same.refl _) hq1
  have c1 : (L2.upd H q1 (.lst ((ps.map vO).take (at0 : Int).toNat))) q1 = some (.lst ((ps.map vO).take (at0 : Int).toNat)) := upd_same
  generalize L2.upd H q1 (.lst ((ps.map vO).take (at0 : Int).toNat)) = H1 at s1 c1 ⊢
  refine rd_dr (m := m) h1 (fun _ h => h) (p.same s1) (by omega) hm0 (by omega) fun r2 n2 M2 H2 _ _ x2 => ⟨by show 2 ≤ sizeLine; decide, fun u hu => ?_⟩
  have b2 := x2.hi
  have s3 : Same H2 (L2.upd H2 u (.lst [.non, .int r2])) := Same.new (Same.refl _) hu
  refine rd_dr (m := 2) h1 (fun _ h => h) (x2.pn.same s3) (by omega) (by decide) (by decide) fun r3 n3 M3 H3 e0 e1 x3 => ?_
  have cu := x3.kp _ _ (upd_same (H := H2) (a := u) (o := .lst [.non, .int r2])) (ne_of upd_same (x2.pn.same s3).dc (by intro z; cases z))
  obtain ⟨v, hv, hat', _⟩ := atI_of (xs := [V.non, V.int r2]) e0 e1
  obtain ⟨o, rfl⟩ : ∃ o, v = vO o := by
    rcases List.mem_cons.mp hv with rfl | hv
    · exact ⟨none, rfl⟩
    · rw [List.mem_singleton.mp hv]; exact ⟨some r2, rfl⟩
  refine ⟨u, _, _, _, rfl, rfl, SqL.of cu, hat', by show 1 ≤ sizeLine; decide, fun q2 hq2 => ?_⟩
  have s4 : Same H3 (L2.upd H3 q2 (.lst [vO o])) := Same.new (Same.refl _) hq2
  have c4 : (L2.upd H3 q2 (.lst [vO o])) q2 = some (.lst [vO o]) := upd_same
  have y := (((Dr.refl p).same s1).trans ((x2.same s3).trans (x3.same s4)))
  have q1d : q1 ≠ d := ne_of c1 (p.same s1).dc (by intro z; cases z)
  have c14 := s4 _ _ (x3.kp _ _ (s3 _ _ (x2.kp _ _ c1 q1d)) q1d)
  generalize L2.upd H3 q2 (.lst [vO o]) = H4 at s4 c4 y c14 ⊢
  have hsz : (((ps.map vO).take (at0 : Int).toNat)).length ≤ 6 := by rw [List.length_take, List.length_map]; omega
  refine ⟨q1, q2, _, _, rfl, rfl, c14, c4, Nat.le_trans (Nat.add_le_add_right hsz _) (by show 6 + 1 ≤ sizeLine; decide), fun q3 hq3 => ?_⟩
  have s5 : Same H4 (L2.upd H4 q3 (.lst ((ps.map vO).take (at0 : Int).toNat ++ [vO o]))) := Same.new (Same.refl _) hq3
  have c5 : (L2.upd H4 q3 (.lst ((ps.map vO).take (at0 : Int).toNat ++ [vO o]))) q3 = some (.lst ((ps.map vO).take (at0 : Int).toNat ++ [vO o])) := upd_same
  have y5 := y.same s5
  generalize L2.upd H4 q3 (.lst ((ps.map vO).take (at0 : Int).toNat ++ [vO o])) = H5 at s5 c5 y5 ⊢
  have ca5 := y5.kp _ _ ha (ne_of ha p.dc (by intro z; cases z))
  refine ⟨_, hσ, ⟨_, h6, _, _, rfl, rfl, _, rfl, np_of ⟨a, _, rfl, SqL.of ca5, fun q4 hq4 => ?_⟩⟩⟩
  rw [cut_from _ (by omega) (by rw [List.length_map]; omega)]
  have s6 : Same H5 (L2.upd H5 q4 (.lst ((ps.map vO).drop ((at0 : Int) + 1).toNat))) := Same.new (Same.refl _) hq4
  have c6 : (L2.upd H5 q4 (.lst ((ps.map vO).drop ((at0 : Int) + 1).toNat))) q4 = some (.lst ((ps.map vO).drop ((at0 : Int) + 1).toNat)) := upd_same
  have y6 := y5.same s6
  have c56 := s6 _ _ c5
  generalize L2.upd H5 q4 (.lst ((ps.map vO).drop ((at0 : Int) + 1).toNat)) = H6 at s6 c6 y6 c56 ⊢
  refine ⟨q3, q4, _, _, rfl, rfl, c56, c6, ?_, fun q5 hq5 => ?_⟩
  · have h2 : ((ps.map vO).drop ((at0 : Int) + 1).toNat).length ≤ 6 := by rw [List.length_drop, List.length_map]; omega
    rw [List.length_append]
    exact Nat.le_trans (Nat.add_le_add (Nat.add_le_add_right hsz _) h2) (by show 6 + 1 + 6 ≤ sizeLine; decide)
  · have s7 : Same H6 (L2.upd H6 q5 (.lst ((ps.map vO).take (at0 : Int).toNat ++ [vO o] ++ (ps.map vO).drop ((at0 : Int) + 1).toNat))) := Same.new (Same.refl _) hq5
    refine k q5 (ps.take at0 ++ [o] ++ ps.drop (at0 + 1)) n3 M3 _ ((y6.same s7).wk (by omega)) ?_ ?_
    · rw [upd_same, List.map_append, List.map_append, List.map_take, List.map_drop, show (at0 : Int).toNat = at0 by omega, show ((at0 : Int) + 1).toNat = at0 + 1 by omega]; rfl
    · rw [List.length_append, List.length_append, List.length_take, List.length_drop]
      show min at0 ps.length + 1 + _ = _
      omega
end
end My

set_option Elab.async false
set_option linter.all false
set_option maxRecDepth 100000
set_option maxHeartbeats 4000000
namespace My
open PySem L2
section
variable {P : Program} {w : World} {K : PySem.W.Frag} {mg : Str → Option Value} {pB : Heap}
theorem lay_row (r : Row) : (PyData.list (r.map dO)).canLay0 = true := by
  have h := shaped_row r
  unfold SeqAt.shaped at h
  simp only [Bool.and_eq_true] at h
  exact h.1
theorem SqX.or {k : Bool} {H : Hp} {a : Addr} {xs : List V} (h : SqX k K H a xs) : SqL K H a xs ∨ SqT K H a xs := by
  cases k with
  | true => exact .inl h
  | false => exact .inr h
theorem ok_law {f fP fD fW fC fU : Addr} {fd dP dD dW dC dU : FuncData} (F : Fun K "law" "law" sLaw f fd)
    (GP : FnOk P w K mg pB CX0 1 fP dP ["_law_script"] (spPen K)) (mP : mg "_law_pen" = some (.ref fP)) (kP : PySem.W.keepIn K (.ref fP) = true) (bP : Binds K dP ["_law_script"] [])
    (GD : FnOk P w K mg pB CX0 1 fD dD ["_law_held", "_law_many"] spDraw) (mD : mg "_law_draw" = some (.ref fD)) (kD : PySem.W.keepIn K (.ref fD) = true) (bD : Binds K dD ["_law_held", "_law_many"] [])
    (GW : FnOk P w K mg pB CX0 2 fW dW ["_law_held", "_law_many", "_law_far"] spRow) (mW : mg "_law_row" = some (.ref fW)) (kW : PySem.W.keepIn K (.ref fW) = true) (bW : Binds K dW ["_law_held", "_law_many", "_law_far"] [])
    (GC : FnOk P w K mg pB CX0 1 fC dC ["passes", "patience"] (spCho K)) (mC : mg "chosen" = some (.ref fC)) (kC : PySem.W.keepIn K (.ref fC) = true) (bC : Binds K dC ["passes", "patience"] [])
    (GU : FnOk P w K mg pB CX0 1 fU dU ["_law_row_here", "_law_told"] spDue) (mU : mg "_law_due" = some (.ref fU)) (kU : PySem.W.keepIn K (.ref fU) = true) (bU : Binds K dU ["_law_row_here", "_law_told"] [])
    (qC : KBinds K dC ["passes", "patience"] ["patience", "passes"] (fun us ws => us ++ ws.reverse) (fun us ws => us ++ ws.reverse))
    (mR : mg "range" = none) (mRp : mg "repr" = none) (mLi : mg "list" = none) (mTu : mg "tuple" = none) : FnG P w K mg pB 3 f fd ["_law_script"] (spLaw K) := by
  refine okG F scLaw (fun vs H Q E h => ?_) (fun cdv A outer s H vs Q E hg hr h => ?_)
  · obtain ⟨a, ns, rfl, _⟩ := h
    rfl
  · obtain ⟨a, ns, rfl, hS, k⟩ := h
    have nd := scLaw.nd
    have hr1 : Room 1 _ := hr.mono (by decide)
    have hr2 : Room 2 _ := hr
    refine ⟨_, (pss_cons (ps_set (i := 1) nd rfl (Or.inl rfl) (pe_call GP hr1 rfl mP kP bP .nil pass0 (pa_cons (pv 0) pa_nil)))
      (pss_cons (ps_for PassesOwn.never rfl (pi_range1 rfl mR (pa_cons pe_int pa_nil)) (pg_name (i := 2) nd rfl (Or.inl rfl))
        (pss_cons (ps_set (i := 3) nd rfl (Or.inl rfl) (pe_op op_add pe_int (pe_call GD hr1 rfl mD kD bD .nil pass0 (pa_cons (pv 1) (pa_cons pe_int pa_nil)))))
        (pss_cons (ps_par (by rfl) nd (i := 4) (j := 5) rfl rfl (by decide) rfl rfl (pa_cons (pe_call GW hr2 rfl mW kW bW .nil pass0 (pa_cons (pv 1) (pa_cons (pv 3) (pa_cons (pe_ix ix_list (pe_lst (pa_cons pe_int (pa_cons pe_int (pa_cons pe_int pa_nil)))) (pe_call GD hr1 rfl mD kD bD .nil pass0 (pa_cons (pv 1) (pa_cons pe_int pa_nil))) (fun _ _ => rfl)) pa_nil)))) (pa_cons (pe_call GW hr2 rfl mW kW bW .nil pass0 (pa_cons (pv 1) (pa_cons (pv 3) (pa_cons pe_int pa_nil)))) pa_nil)) (by rfl))
        (pss_cons (ps_par (by rfl) nd (i := 6) (j := 7) rfl rfl (by decide) rfl rfl (pa_cons (pe_call GD hr1 rfl mD kD bD .nil pass0 (pa_cons (pv 1) (pa_cons (pv 3) pa_nil))) (pa_cons (pe_call GD hr1 rfl mD kD bD .nil pass0 (pa_cons (pv 1) (pa_cons pe_int pa_nil))) pa_nil)) (by rfl))
        (pss_cons (ps_set (i := 8) nd rfl (Or.inl rfl) (pe_op op_cat (pe_op op_cat (pe_slice sl_list (pv 4) po_none (po_some (pv 6))) (pe_lst (pa_cons (pe_ix ix_list (pe_lst (pa_cons pe_non (pa_cons (pe_call GD hr1 rfl mD kD bD .nil pass0 (pa_cons (pv 1) (pa_cons pe_int pa_nil))) pa_nil))) (pe_call GD hr1 rfl mD kD bD .nil pass0 (pa_cons (pv 1) (pa_cons pe_int pa_nil))) (fun _ _ => rfl)) pa_nil))) (pe_slice sl_list (pv 4) (po_some (pe_op op_add (pv 6) pe_int)) po_none)))
        (pss_cons (ps_set (i := 9) nd rfl (Or.inl rfl) (pe_op op_cat (pe_op op_cat (pe_slice sl_list (pv 5) po_none (po_some (pv 6))) (pe_lst (pa_cons (pe_ix ix_list (pe_lst (pa_cons pe_non (pa_cons (pe_call GD hr1 rfl mD kD bD .nil pass0 (pa_cons (pv 1) (pa_cons pe_int pa_nil))) pa_nil))) (pe_call GD hr1 rfl mD kD bD .nil pass0 (pa_cons (pv 1) (pa_cons pe_int pa_nil))) (fun _ _ => rfl)) pa_nil))) (pe_slice sl_list (pv 5) (po_some (pe_op op_add (pv 6) pe_int)) po_none)))
        (pss_one (ps_for PassesOwn.never rfl (pi_list (pe_lst (pa_cons (pe_tup (pa_cons (pv 4) (pa_cons (pv 5) pa_nil))) (pa_cons (pe_tup (pa_cons (pv 8) (pa_cons (pv 5) pa_nil))) (pa_cons (pe_tup (pa_cons (pv 4) (pa_cons (pv 9) pa_nil))) (pa_cons (pe_tup (pa_cons (pv 4) (pa_cons (pe_op op_rep (pe_lst (pa_cons pe_non pa_nil)) (pv 3)) pa_nil))) (pa_cons (pe_tup (pa_cons (pe_op op_rep (pe_lst (pa_cons pe_non pa_nil)) (pv 3)) (pa_cons (pv 5) pa_nil))) pa_nil))))))) (pg_tup rfl (pgs_cons (pg_name (i := 10) nd rfl (Or.inl rfl)) (pgs_cons (pg_name (i := 11) nd rfl (Or.inl rfl)) pgs_nil)))
          (pss_cons (ps_par (by rfl) nd (i := 12) (j := 13) rfl rfl (by decide) rfl rfl (pa_cons (pe_ix ix_list (pe_lst (pa_cons (pe_callTy call_list_of (by rfl) mLi (by decide +kernel) (pa_cons (pv 10) pa_nil)) (pa_cons (pe_callTy call_tuple_of (by rfl) mTu (by decide +kernel) (pa_cons (pv 10) pa_nil)) pa_nil))) (pv 7) (fun _ _ => rfl)) (pa_cons (pe_ix ix_list (pe_lst (pa_cons (pe_callTy call_tuple_of (by rfl) mTu (by decide +kernel) (pa_cons (pv 11) pa_nil)) (pa_cons (pe_callTy call_list_of (by rfl) mLi (by decide +kernel) (pa_cons (pv 11) pa_nil)) pa_nil))) (pv 7) (fun _ _ => rfl)) pa_nil)) (by rfl))
          (pss_cons (ps_if (PW.pt (pw_or (pt_cmpR op_ne (pe_callB call_rpn (by rfl) mRp (by decide +kernel) (pa_cons (pe_call GC hr1 rfl mC kC bC .nil pass0 (pa_cons (pv 12) (pa_cons (pv 13) pa_nil))) pa_nil)) (pe_callB call_rpn (by rfl) mRp (by decide +kernel) (pa_cons (pe_call GU hr1 rfl mU kU bU .nil pass0 (pa_cons (pv 10) (pa_cons (pv 11) pa_nil))) pa_nil)) (nomark _)) (pw_or1 (pt_cmpR (op_neD hr.units) (pe_callTy call_list_of (by rfl) mLi (by decide +kernel) (pa_cons (pv 12) pa_nil)) (pv 10) (nomark _))))) (pss_one (ps_ret pe_bl)) pss_nil)
          (pss_one (ps_if (PW.pt (pw_or (pt_cmpR (op_neD hr.units) (pe_callTy call_list_of (by rfl) mLi (by decide +kernel) (pa_cons (pv 13) pa_nil)) (pv 11) (nomark _)) (pw_or1 (pt_cmpR op_ne (pe_kw0 GC hr1 rfl mC kC qC pass0 (pk_cons (pv 13) (pk_cons (pv 12) pk_nil))) (pe_call GU hr1 rfl mU kU bU .nil pass0 (pa_cons (pv 10) (pa_cons (pv 11) pa_nil))) (nomark _))))) (pss_one (ps_ret pe_bl)) pss_nil))))))))))))
      (pss_one (ps_ret pe_bl)))), ?_⟩
    refine asg_n (call_of ⟨_, rfl, a, ns, rfl, hS, fun d l ms H1 hd hl s1 p1 => ?_⟩)
    refine ⟨14, rfl, by decide, by decide, for_range (lo := 0) (n := 14) (fun n σ H2 => ∃ (nn L : Int) (x2 x3 x4 x5 x6 x7 x8 x9 x10 x11 x12 x13 : Option V), σ = [some (.ref a), some (.ref d), x2, x3, x4, x5, x6, x7, x8, x9, x10, x11, x12, x13] ∧ Pen H2 d l ms nn L ∧ nn ≤ 100 * (n : Int)) ?_ ?_ ?_⟩
    · exact ⟨0, 0, _, _, _, _, _, _, _, _, _, _, _, _, rfl, p1, by decide⟩
    · rintro n σ H2 hn ⟨nn, L, x2, x3, x4, x5, x6, x7, x8, x9, x10, x11, x12, x13, rfl, pn, hb⟩
      rw [Int.zero_add]
      refine asg_n (rd_dr (m := 6) rfl (fun _ h => h) pn (by omega) (by decide) (by decide) fun r6 n1 M1 J1 q0 q1 y1 => ⟨_, _, rfl, rfl, ?_⟩)
      have b1 := y1.hi
      obtain ⟨many, em, hm1, hm6⟩ : ∃ many : Nat, 1 + r6 = (many : Int) ∧ 1 ≤ many ∧ many ≤ 6 := ⟨(1 + r6).toNat, by omega, by omega, by omega⟩
      refine par_of ⟨_, rfl, _, rfl, by show 3 ≤ sizeLine; decide, fun u hu => ?_⟩
      have su : Same J1 (L2.upd J1 u (.lst [.int 4, .int 10, .int 400])) := Same.new (Same.refl _) hu
      refine rd_dr (m := 3) rfl (fun _ h => h) (y1.pn.same su) (by omega) (by decide) (by decide) fun r3 n2 M2 J2 e0 e1 y2 => ?_
      have b2 := y2.hi
      have cu := y2.kp _ _ (upd_same (H := J1) (a := u) (o := .lst [.int 4, .int 10, .int 400])) (ne_of upd_same (y1.pn.same su).dc (by intro z; cases z))
      obtain ⟨v, hv, hat, _⟩ := atI_of (xs := [V.int 4, V.int 10, V.int 400]) e0 e1
      obtain ⟨far, rfl, f0, f1⟩ : ∃ i : Int, v = .int i ∧ 0 < i ∧ i ≤ 400 := by
        simp only [List.mem_cons, List.mem_nil_iff, or_false] at hv
        rcases hv with rfl | rfl | rfl <;> exact ⟨_, rfl, by decide, by decide⟩
      refine ⟨u, _, _, _, rfl, rfl, SqL.of cu, hat, d, l, ms, n2, M2, many, far, (by show [V.ref d, V.int (1 + r6), V.int far] = [V.ref d, V.int (many : Int), V.int far]; rw [em]), y2.pn, by omega, hm6, f0, f1, fun a1 ps n3 M3 J3 y3 c3 l3 => ?_⟩
      have b3 := y3.hi
      refine ⟨_, rfl, _, rfl, d, l, ms, n3, M3, many, 10, (by show [V.ref d, V.int (1 + r6), V.int 10] = [V.ref d, V.int (many : Int), V.int 10]; rw [em]), y3.pn, by omega, hm6, by decide, by decide, fun b1' qs n4 M4 J4 y4 c4 l4 => ⟨_, _, rfl, ?_⟩⟩
      have b4 := y4.hi
      have a4 := y4.kp _ _ c3 (ne_of c3 y3.pn.dc (by intro z; cases z))
      refine par_of (rd_dr (m := 1 + r6) rfl (fun _ h => ⟨_, rfl, h⟩) y4.pn (by omega) (by omega) (by omega) fun at0 n5 M5 J5 t0 t1 y5 => ?_)
      have b5 := y5.hi
      have a5 := y5.kp _ _ a4 (ne_of a4 y4.pn.dc (by intro z; cases z))
      have b5' := y5.kp _ _ c4 (ne_of c4 y4.pn.dc (by intro z; cases z))
      refine rd_dr (m := 2) rfl (fun _ h => h) y5.pn (by omega) (by decide) (by decide) fun kd n6 M6 J6 k0 k1 y6 => ⟨_, _, rfl, ?_⟩
      have b6 := y6.hi
      have a6 := y6.kp _ _ a5 (ne_of a5 y5.pn.dc (by intro z; cases z))
      have b6' := y6.kp _ _ b5' (ne_of b5' y5.pn.dc (by intro z; cases z))
      obtain ⟨at1, rfl⟩ : ∃ i : Nat, at0 = (i : Int) := ⟨at0.toNat, by omega⟩
      refine asg_n (rd_splice (i := 4) rfl rfl rfl a6 y6.pn (by omega) (by decide) (by decide) (by omega) (by omega) fun nr rs n7 M7 J7 y7 c7 l7 => ?_)
      have b7 := y7.hi
      have a7 := y7.kp _ _ a6 (ne_of a6 y6.pn.dc (by intro z; cases z))
      have b7' := y7.kp _ _ b6' (ne_of b6' y6.pn.dc (by intro z; cases z))
      refine asg_n (rd_splice (i := 5) rfl rfl rfl b7' y7.pn (by omega) (by decide) (by decide) (by omega) (by omega) fun ot os n8 M8 J8 y8 c8 l8 => ?_)
      have b8 := y8.hi
      have a8 := y8.kp _ _ a7 (ne_of a7 y7.pn.dc (by intro z; cases z))
      have b8' := y8.kp _ _ b7' (ne_of b7' y7.pn.dc (by intro z; cases z))
      have r8 := y8.kp _ _ c7 (ne_of c7 y7.pn.dc (by intro z; cases z))
      have p8 := y8.pn
      clear y1 y2 y3 y4 y5 y6 y7 y8 a4 a5 a6 a7 b5' b6' b7' c3 c4 c7 cu
      refine ⟨_, rfl, _, rfl, by show 2 ≤ sizeLine; decide, fun t1 ht1 => ?_⟩
      have z1 : Same J8 (L2.upd J8 t1 (.tup [.ref a1, .ref b1'])) := Same.new (Same.refl _) ht1
      have g1 : PairOk (L2.upd J8 t1 (.tup [.ref a1, .ref b1'])) (.ref t1) := ⟨t1, a1, b1', ps, qs, rfl, upd_same, z1 _ _ a8, z1 _ _ b8', by omega, by omega⟩
      generalize L2.upd J8 t1 (.tup [.ref a1, .ref b1']) = Ka at z1 g1 ⊢
      refine ⟨_, rfl, _, rfl, by show 2 ≤ sizeLine; decide, fun t2 ht2 => ?_⟩
      have z2 : Same Ka (L2.upd Ka t2 (.tup [.ref nr, .ref b1'])) := Same.new (Same.refl _) ht2
      have y12 := z1.trans z2
      have g2 : PairOk (L2.upd Ka t2 (.tup [.ref nr, .ref b1'])) (.ref t2) := ⟨t2, nr, b1', rs, qs, rfl, upd_same, y12 _ _ r8, y12 _ _ b8', by omega, by omega⟩
      generalize L2.upd Ka t2 (.tup [.ref nr, .ref b1']) = Kb at z2 y12 g2 ⊢
      refine ⟨_, rfl, _, rfl, by show 2 ≤ sizeLine; decide, fun t3 ht3 => ?_⟩
      have z3 : Same Kb (L2.upd Kb t3 (.tup [.ref a1, .ref ot])) := Same.new (Same.refl _) ht3
      have y13 := y12.trans z3
      have g3 : PairOk (L2.upd Kb t3 (.tup [.ref a1, .ref ot])) (.ref t3) := ⟨t3, a1, ot, ps, os, rfl, upd_same, y13 _ _ a8, y13 _ _ c8, by omega, by omega⟩
      generalize L2.upd Kb t3 (.tup [.ref a1, .ref ot]) = Kc at z3 y13 g3 ⊢
      have rp : ([V.non].length * (1 + r6).toNat ≤ sizeLine) := by
        show 1 * (1 + r6).toNat ≤ sizeLine
        exact Nat.le_trans (show 1 * (1 + r6).toNat ≤ 6 by omega) (by decide)
      refine ⟨_, rfl, by show 1 ≤ sizeLine; decide, fun u4 hu4 => ⟨_, rfl, u4, _, _, rfl, rfl, upd_same, by omega, by omega, rp, fun p4 hp4 => ⟨by show 2 ≤ sizeLine; decide, fun t4 ht4 => ?_⟩⟩⟩
      rw [show (1 + r6).toNat = many by omega, non_row] at ht4 ⊢
      have z4 := ((Same.new (o := .lst [V.non]) (Same.refl Kc) hu4).trans (Same.new (o := .lst ((List.replicate many (none : Option Int)).map vO)) (Same.refl _) hp4)).trans (Same.new (o := .tup [.ref a1, .ref p4]) (Same.refl _) ht4)
      have y14 := y13.trans z4
      have g4 : PairOk (L2.upd (L2.upd (L2.upd Kc u4 (.lst [V.non])) p4 (.lst ((List.replicate many (none : Option Int)).map vO))) t4 (.tup [.ref a1, .ref p4])) (.ref t4) :=
        ⟨t4, a1, p4, ps, List.replicate many none, rfl, upd_same, y14 _ _ a8, Same.new (o := .tup [.ref a1, .ref p4]) (Same.refl _) ht4 _ _ upd_same, by rw [List.length_replicate]; omega, by omega⟩
      generalize L2.upd (L2.upd (L2.upd Kc u4 (.lst [V.non])) p4 (.lst ((List.replicate many (none : Option Int)).map vO))) t4 (.tup [.ref a1, .ref p4]) = Kd at z4 y14 g4 ⊢
      refine ⟨by show 1 ≤ sizeLine; decide, fun u5 hu5 => ⟨_, rfl, u5, _, _, rfl, rfl, upd_same, by omega, by omega, rp, fun p5 hp5 => ⟨_, rfl, by show 2 ≤ sizeLine; decide, fun t5 ht5 => ?_⟩⟩⟩
      rw [show (1 + r6).toNat = many by omega, non_row] at ht5 ⊢
      have z5 := ((Same.new (o := .lst [V.non]) (Same.refl Kd) hu5).trans (Same.new (o := .lst ((List.replicate many (none : Option Int)).map vO)) (Same.refl _) hp5)).trans (Same.new (o := .tup [.ref p5, .ref b1']) (Same.refl _) ht5)
      have y15 := y14.trans z5
      have g5 : PairOk (L2.upd (L2.upd (L2.upd Kd u5 (.lst [V.non])) p5 (.lst ((List.replicate many (none : Option Int)).map vO))) t5 (.tup [.ref p5, .ref b1'])) (.ref t5) :=
        ⟨t5, p5, b1', List.replicate many none, qs, rfl, upd_same, Same.new (o := .tup [.ref p5, .ref b1']) (Same.refl _) ht5 _ _ upd_same, y15 _ _ b8', by rw [List.length_replicate]; omega, by rw [List.length_replicate]; omega⟩
      generalize L2.upd (L2.upd (L2.upd Kd u5 (.lst [V.non])) p5 (.lst ((List.replicate many (none : Option Int)).map vO))) t5 (.tup [.ref p5, .ref b1']) = Ke at z5 y15 g5 ⊢
      refine ⟨by show 5 ≤ sizeLine; decide, fun L5 hL5 => ?_⟩
      have z6 : Same Ke (L2.upd Ke L5 (.lst [.ref t1, .ref t2, .ref t3, .ref t4, .ref t5])) := Same.new (Same.refl _) hL5
      have cL : (L2.upd Ke L5 (.lst [.ref t1, .ref t2, .ref t3, .ref t4, .ref t5])) L5 = some (.lst [.ref t1, .ref t2, .ref t3, .ref t4, .ref t5]) := upd_same
      have y16 := y15.trans z6
      have all : ∀ x ∈ [V.ref t1, .ref t2, .ref t3, .ref t4, .ref t5], PairOk (L2.upd Ke L5 (.lst [.ref t1, .ref t2, .ref t3, .ref t4, .ref t5])) x := by
        intro x hx
        have e5 := z5.trans z6
        have e4 := z4.trans e5
        have e3 := z3.trans e4
        simp only [List.mem_cons, List.mem_nil_iff, or_false] at hx
        rcases hx with rfl | rfl | rfl | rfl | rfl
        · exact g1.same (z2.trans e3)
        · exact g2.same e3
        · exact g3.same e4
        · exact g4.same e5
        · exact g5.same z6
      generalize L2.upd Ke L5 (.lst [.ref t1, .ref t2, .ref t3, .ref t4, .ref t5]) = Kf at z6 cL y16 all ⊢
      clear g1 g2 g3 g4 g5 z1 z2 z3 z4 z5 z6 y12 y13 y14 y15
      have p9 := p8.same y16
      refine ⟨L5, rfl, ⟨_, SqL.of cL⟩, for_list (xs := [V.ref t1, .ref t2, .ref t3, .ref t4, .ref t5]) (fun i σ H3 => ∃ (x10 x11 x12 x13 : Option V), σ = [some (.ref a), some (.ref d), some (.int (n : Int)), some (.int (1 + r6)), some (.ref a1), some (.ref b1'), some (.int (at1 : Int)), some (.int kd), some (.ref nr), some (.ref ot), x10, x11, x12, x13] ∧ Same Kf H3) ?_ ?_ ?_ ?_⟩
      · exact ⟨_, _, _, _, rfl, Same.refl _⟩
      · rintro i σ H3 _ ⟨_, _, _, _, rfl, s3⟩
        exact SqL.of (s3 _ _ cL)
      · rintro i x σ H3 hx ⟨x10, x11, x12, x13, rfl, s3⟩
        obtain ⟨t, a', b', ps', qs', rfl, ct, ca, cb, hlen, h6'⟩ := (all x (List.mem_of_getElem? hx)).same s3
        refine ⟨t, _, rfl, SqT.of ct, rfl, _, _, rfl, _, _, rfl, rfl, ?_⟩
        have hkd : kd = 0 ∨ kd = 1 := by omega
        have e7 : ∀ x y : Addr, atI [V.ref x, V.ref y] kd = some (.ref (if kd = 0 then x else y)) := by
          intro x y
          rcases hkd with rfl | rfl <;> rfl
        refine par_of ⟨_, rfl, a', _, rfl, .inl (SqL.of ca), fun l1 hl1 => ?_⟩
        have w1 := Same.new (o := .lst (ps'.map vO)) (Same.refl H3) hl1
        have cl1 := upd_same (H := H3) (a := l1) (o := .lst (ps'.map vO))
        generalize L2.upd H3 l1 (.lst (ps'.map vO)) = G1 at w1 cl1 ⊢
        refine ⟨_, rfl, a', _, rfl, .inl ⟨SqL.of (w1 _ _ ca), fun u1 hu1 => ?_⟩⟩
        have w2 := Same.new (o := .tup (ps'.map vO)) (Same.refl G1) hu1
        have cu1 := upd_same (H := G1) (a := u1) (o := .tup (ps'.map vO))
        generalize L2.upd G1 u1 (.tup (ps'.map vO)) = G2 at w2 cu1 ⊢
        refine ⟨by show 2 ≤ sizeLine; decide, fun o1 ho1 => ⟨_, rfl, o1, _, _, _, rfl, rfl, SqL.of upd_same, e7 l1 u1, ?_⟩⟩
        have w3 := Same.new (o := .lst [.ref l1, .ref u1]) (Same.refl G2) ho1
        generalize L2.upd G2 o1 (.lst [.ref l1, .ref u1]) = G3 at w3 ⊢
        have w13 := w1.trans (w2.trans w3)
        refine ⟨_, rfl, b', _, rfl, .inl ⟨SqL.of (w13 _ _ cb), fun u2 hu2 => ?_⟩⟩
        have w4 := Same.new (o := .tup (qs'.map vO)) (Same.refl G3) hu2
        have cu2 := upd_same (H := G3) (a := u2) (o := .tup (qs'.map vO))
        generalize L2.upd G3 u2 (.tup (qs'.map vO)) = G4 at w4 cu2 ⊢
        refine ⟨_, rfl, b', _, rfl, .inl (SqL.of (w4 _ _ (w13 _ _ cb))), fun l2 hl2 => ?_⟩
        have w5 := Same.new (o := .lst (qs'.map vO)) (Same.refl G4) hl2
        have cl2 := upd_same (H := G4) (a := l2) (o := .lst (qs'.map vO))
        generalize L2.upd G4 l2 (.lst (qs'.map vO)) = G5 at w5 cl2 ⊢
        refine ⟨by show 2 ≤ sizeLine; decide, fun o2 ho2 => ⟨_, rfl, o2, _, _, _, rfl, rfl, SqL.of upd_same, e7 u2 l2, _, _, rfl, ?_⟩⟩
        have w6 := Same.new (o := .lst [.ref u2, .ref l2]) (Same.refl G5) ho2
        generalize L2.upd G5 o2 (.lst [.ref u2, .ref l2]) = G6 at w6 ⊢
        have w56 := w5.trans w6
        have w46 := w4.trans w56
        have hA : SqX (decide (kd = 0)) K G6 (if kd = 0 then l1 else u1) (ps'.map vO) := by
          rcases hkd with rfl | rfl
          · exact SqL.of (w46 _ _ (w3 _ _ (w2 _ _ cl1)))
          · exact SqT.of (w46 _ _ (w3 _ _ cu1))
        have hB : SqX (decide (kd = 1)) K G6 (if kd = 0 then u2 else l2) (qs'.map vO) := by
          rcases hkd with rfl | rfl
          · exact SqT.of (w56 _ _ cu2)
          · exact SqL.of (w6 _ _ cl2)
        have w16 := w13.trans w46
        generalize (if kd = 0 then l1 else u1) = A' at hA ⊢
        generalize (if kd = 0 then u2 else l2) = B' at hB ⊢
        generalize decide (kd = 0) = ka at hA
        generalize decide (kd = 1) = kb at hB
        clear w1 w2 w3 w4 w5 w6 w56 w46 w13 cl1 cu1 cl2 cu2 e7
        have dn := due_nat ps' qs' (by omega)
        have ds := due_scal ps' qs' (by omega)
        refine ⟨_, rfl, _, rfl, ka, kb, A', B', ps', qs', rfl, hA, hB, hlen, fun G7 s7 => ⟨_, rfl, dn, ?_⟩⟩
        have w17 := w16.trans s7
        refine ⟨_, rfl, _, rfl, a', b', ps', qs', rfl, w17 _ _ ca, w17 _ _ cb, hlen, by omega, fun G8 s8 => ⟨_, rfl, dn, rfl, _, rfl, iteB0 (by simp) ?_⟩⟩
        have w18 := w17.trans s8
        refine ⟨_, rfl, A', _, rfl, ((hA.same s7).same s8).or, fun l9 hl9 => ?_⟩
        have s9 := Same.new (o := .lst (ps'.map vO)) (Same.refl G8) hl9
        have c9 := upd_same (H := G8) (a := l9) (o := .lst (ps'.map vO))
        generalize L2.upd G8 l9 (.lst (ps'.map vO)) = G9 at s9 c9 ⊢
        have w19 := w18.trans s9
        refine ⟨_, rfl, .list (ps'.map dO), .list (ps'.map dO), .lst (SqL.of c9) (dp_row _), .lst (SqL.of (w19 _ _ ca)) (dp_row _), shaped_row _, shaped_row _, _, rfl, ?_⟩
        rw [SeqAt.eqv_refl _ (lay_row _)]
        refine iteF ?_
        refine ⟨_, rfl, B', _, rfl, (((hB.same s7).same s8).same s9).or, fun l0 hl0 => ?_⟩
        have s10 := Same.new (o := .lst (qs'.map vO)) (Same.refl G9) hl0
        have c10 := upd_same (H := G9) (a := l0) (o := .lst (qs'.map vO))
        generalize L2.upd G9 l0 (.lst (qs'.map vO)) = G10 at s10 c10 ⊢
        have w20 := w19.trans s10
        refine ⟨_, rfl, .list (qs'.map dO), .list (qs'.map dO), .lst (SqL.of c10) (dp_row _), .lst (SqL.of (w20 _ _ cb)) (dp_row _), shaped_row _, shaped_row _, _, rfl, ?_⟩
        rw [SeqAt.eqv_refl _ (lay_row _)]
        refine iteF ?_
        refine ⟨_, rfl, _, rfl, ka, kb, A', B', ps', qs', rfl, (((hA.same s7).same s8).same s9).same s10, (((hB.same s7).same s8).same s9).same s10, hlen, fun G11 s11 => ?_⟩
        have w21 := w20.trans s11
        refine ⟨_, rfl, _, rfl, a', b', ps', qs', rfl, w21 _ _ ca, w21 _ _ cb, hlen, by omega, fun G12 s12 => ⟨ds, _, rfl, iteB0 (by simp) ?_⟩⟩
        exact ⟨_, _, _, _, rfl, s3.trans (w21.trans s12)⟩
      · rintro σ H3 ⟨x10, x11, x12, x13, rfl, s3⟩
        exact ⟨n8, M8, _, _, _, _, _, _, _, _, _, _, _, _, rfl, p9.same s3, by omega⟩
    · rintro σ H2 _
      exact k H2
end
end My

set_option Elab.async false
set_option linter.all false
set_option maxRecDepth 100000
set_option maxHeartbeats 4000000
namespace My
open PySem L2
theorem kb2 {K : PySem.W.Frag} {f : Addr} {fd : FuncData} (F : Fun K "chosen" "chosen" sCho f fd) : KBinds K fd ["passes", "patience"] ["patience", "passes"] (fun us ws => us ++ ws.reverse) (fun us ws => us ++ ws.reverse) := by
  obtain ⟨oc, od, kV, doc, pm, an, cdv, ct, osl, rfl, lk, hcd⟩ := F.ex
  refine ⟨fun s us ws _ hl => ?_, fun r1 r2 => r1.append r2.reverse⟩
  match us, ws, hl with
  | [], [u, v], _ => exact .of_eq rfl
  | [u], [v], _ => exact .of_eq rfl
  | [u, v], [], _ => exact .of_eq rfl
  | [], [], h => exact absurd h (by simp)
  | [], [_], h => exact absurd h (by simp)
  | [], _ :: _ :: _ :: _, h => exact absurd h (by simp)
  | [_], [], h => exact absurd h (by simp)
  | [_], _ :: _ :: _, h => exact absurd h (by simp)
  | [_, _], _ :: _, h => exact absurd h (by simp)
  | _ :: _ :: _ :: _, _, h => exact absurd h (by simp)
end My

set_option Elab.async false
set_option linter.all false
set_option maxRecDepth 100000
set_option maxHeartbeats 4000000
namespace My
open PySem L2
theorem all_mk {l : PySem.W.OpenLaw} {w : World} {K : PySem.W.Frag} {h : Heap} {mg : Str → Option Value} {fa gcho gpen gdrw gdue grow glaw : Addr}  (X : K.In h) (G : h.Ns mainGlobals mg) (hfa : mg "law" = some (.ref fa))
    {odcho ancho odpen anpen oddrw andrw oddue andue odrow anrow odlaw anlaw : Option Addr} {slcho slpen sldrw sldue slrow sllaw : Array (Option Value)} {occho kVcho dccho pmcho cdcho ctcho ocpen kVpen dcpen pmpen cdpen ctpen ocdrw kVdrw dcdrw pmdrw cddrw ctdrw ocdue kVdue dcdue pmdue cddue ctdue ocrow kVrow dcrow pmrow cdrow ctrow oclaw kVlaw dclaw pmlaw cdlaw ctlaw : Value}
    (acho : PySem.W.nsIn K mainGlobals "chosen" = some (some (.ref gcho))) (lcho : K.lookup gcho = some ⟨occho, odcho, .func (PySem.W.fnOf "chosen" "chosen" (defArgs sCho) (defBody sCho) (defScope sCho) .none kVcho dccho pmcho ancho cdcho ctcho), slcho⟩) (ccho : PySem.W.codeIn K cdcho "chosen" = true) (kcho : PySem.W.keepIn K (.ref gcho) = true)
    (apen : PySem.W.nsIn K mainGlobals "_law_pen" = some (some (.ref gpen))) (lpen : K.lookup gpen = some ⟨ocpen, odpen, .func (PySem.W.fnOf "_law_pen" "_law_pen" (defArgs sPen) (defBody sPen) (defScope sPen) .none kVpen dcpen pmpen anpen cdpen ctpen), slpen⟩) (cpen : PySem.W.codeIn K cdpen "_law_pen" = true) (kpen : PySem.W.keepIn K (.ref gpen) = true)
    (adrw : PySem.W.nsIn K mainGlobals "_law_draw" = some (some (.ref gdrw))) (ldrw : K.lookup gdrw = some ⟨ocdrw, oddrw, .func (PySem.W.fnOf "_law_draw" "_law_draw" (defArgs sDraw) (defBody sDraw) (defScope sDraw) .none kVdrw dcdrw pmdrw andrw cddrw ctdrw), sldrw⟩) (cdrw : PySem.W.codeIn K cddrw "_law_draw" = true) (kdrw : PySem.W.keepIn K (.ref gdrw) = true)
    (adue : PySem.W.nsIn K mainGlobals "_law_due" = some (some (.ref gdue))) (ldue : K.lookup gdue = some ⟨ocdue, oddue, .func (PySem.W.fnOf "_law_due" "_law_due" (defArgs sDue) (defBody sDue) (defScope sDue) .none kVdue dcdue pmdue andue cddue ctdue), sldue⟩) (cdue : PySem.W.codeIn K cddue "_law_due" = true) (kdue : PySem.W.keepIn K (.ref gdue) = true)
    (arow : PySem.W.nsIn K mainGlobals "_law_row" = some (some (.ref grow))) (lrow : K.lookup grow = some ⟨ocrow, odrow, .func (PySem.W.fnOf "_law_row" "_law_row" (defArgs sRow) (defBody sRow) (defScope sRow) .none kVrow dcrow pmrow anrow cdrow ctrow), slrow⟩) (crow : PySem.W.codeIn K cdrow "_law_row" = true) (krow : PySem.W.keepIn K (.ref grow) = true)
    (alaw : PySem.W.nsIn K mainGlobals "law" = some (some (.ref glaw))) (llaw : K.lookup glaw = some ⟨oclaw, odlaw, .func (PySem.W.fnOf "law" "law" (defArgs sLaw) (defBody sLaw) (defScope sLaw) .none kVlaw dclaw pmlaw anlaw cdlaw ctlaw), sllaw⟩) (claw : PySem.W.codeIn K cdlaw "law" = true) (klaw : PySem.W.keepIn K (.ref glaw) = true)
    (zenumerate : PySem.W.nsIn K mainGlobals "enumerate" = some none)
    (zlen : PySem.W.nsIn K mainGlobals "len" = some none)
    (zlist : PySem.W.nsIn K mainGlobals "list" = some none)
    (ztuple : PySem.W.nsIn K mainGlobals "tuple" = some none)
    (zrange : PySem.W.nsIn K mainGlobals "range" = some none)
    (zrepr : PySem.W.nsIn K mainGlobals "repr" = some none) :
    ∃ fd : FuncData, (∀ (s : Shared) (v : Value), BindsTo s fd ⟨[v], []⟩ [("_law_script", v)]) ∧ ∀ base : Heap, K.In base → base.Ns mainGlobals mg → FnG l.prog w K mg base 3 fa fd ["_law_script"] (spLaw K) := by
  have e := hfa.symm.trans (PySem.W.mg_of X G alaw)
  cases e
  have Fcho := fun_mk (st := sCho) lcho ccho kcho
  have mcho := PySem.W.mg_of X G acho
  have bcho := Fcho.binds (ps := ["passes", "patience"]) fun _ _ _ _ _ _ us hl => match us, hl with | [_, _], _ => rfl
  have Fpen := fun_mk (st := sPen) lpen cpen kpen
  have mpen := PySem.W.mg_of X G apen
  have bpen := Fpen.binds (ps := ["_law_script"]) fun _ _ _ _ _ _ us hl => match us, hl with | [_], _ => rfl
  have Fdrw := fun_mk (st := sDraw) ldrw cdrw kdrw
  have mdrw := PySem.W.mg_of X G adrw
  have bdrw := Fdrw.binds (ps := ["_law_held", "_law_many"]) fun _ _ _ _ _ _ us hl => match us, hl with | [_, _], _ => rfl
  have Fdue := fun_mk (st := sDue) ldue cdue kdue
  have mdue := PySem.W.mg_of X G adue
  have bdue := Fdue.binds (ps := ["_law_row_here", "_law_told"]) fun _ _ _ _ _ _ us hl => match us, hl with | [_, _], _ => rfl
  have Frow := fun_mk (st := sRow) lrow crow krow
  have mrow := PySem.W.mg_of X G arow
  have brow := Frow.binds (ps := ["_law_held", "_law_many", "_law_far"]) fun _ _ _ _ _ _ us hl => match us, hl with | [_, _, _], _ => rfl
  have Flaw := fun_mk (st := sLaw) llaw claw klaw
  have mlaw := PySem.W.mg_of X G alaw
  have nenumerate := PySem.W.mg_none_of X G zenumerate
  have nlen := PySem.W.mg_none_of X G zlen
  have nlist := PySem.W.mg_none_of X G zlist
  have ntuple := PySem.W.mg_none_of X G ztuple
  have nrange := PySem.W.mg_none_of X G zrange
  have nrepr := PySem.W.mg_none_of X G zrepr
  refine ⟨PySem.W.fnOf "law" "law" (defArgs sLaw) (defBody sLaw) (defScope sLaw) .none kVlaw dclaw pmlaw anlaw cdlaw ctlaw, fun s v => .of_eq rfl, fun base _ _ => ?_⟩
  have Gcho := ok_cho (P := l.prog) (w := w) (mg := mg) (pB := base) Fcho nenumerate
  have Gpen := ok_pen (P := l.prog) (w := w) (base := base) Fpen nlist
  have Gdrw := ok_draw (P := l.prog) (w := w) (base := base) Fdrw nlen
  have Gdue := ok_due (P := l.prog) (w := w) (pB := base) Fdue nrange nlen
  have Grow := ok_row Frow Gdrw mdrw kdrw bdrw nrange
  exact ok_law Flaw Gpen mpen kpen bpen Gdrw mdrw kdrw bdrw Grow mrow krow brow Gcho mcho kcho bcho Gdue mdue kdue bdue (kb2 Fcho) nrange nrepr nlist ntuple
theorem walk {l : PySem.W.OpenLaw} {q : Program} {loose : List Str} {XP : (Str → Option Value) → Heap → Prop} {YP : World → Heap → Prop} {d : DefRec} {K : Params → PySem.W.Frag} (hn : l.most = some 63) (hdf : d.params.defaults = [])
    (hY : ∀ (w : World) (h : Heap), YP w h → (K w.params).In h)
    (F : ∀ (w : World) (mg : Str → Option Value) (fa : Addr) (h : Heap), (K w.params).In h → h.Ns mainGlobals mg → mg d.name = some (.ref fa) →
      ∃ fd : FuncData, (∀ (s : Shared) (u : Value), BindsTo s fd ⟨[u], []⟩ [("_law_script", u)]) ∧ ∀ base : Heap, (K w.params).In base → base.Ns mainGlobals mg → FnG l.prog w (K w.params) mg base 3 fa fd ["_law_script"] ((fun w => spLaw (K w.params)) w)) :
    PySem.W.WalkO q loose XP YP l.row.toRowW d [] (fun f vs => PySem.call f vs) :=
  walkG (n := 63) (k := 3) (x := "_law_script") (sp := fun w => spLaw (K w.params)) hn (by decide) hdf ⟨rfl, by decide, by decide⟩ hY F (fun _ _ a ns hl hS => ⟨a, ns, rfl, hS, fun _ => rfl⟩)
end My

set_option Elab.async false
set_option linter.all false
set_option maxRecDepth 100000
open PySem PySem.W PyProof.Rows
set_option maxRecDepth 100000 in
set_option maxHeartbeats 0 in
theorem PySem.Challenge.cw_rankloop_k01_ranks_chosen_holds : PySem.Challenge.rw_rankloop_k01_ranks_chosen.Holds := by
  w_on; o_law; k_head; (case hw => w_witness2)
  k_fill
  refine My.walk (l := PySem.Challenge.rw_rankloop_k01_ranks_chosen) rfl rfl (fun w h Y => PySem.W.kIn_of Y) ?F
  case F =>
    intro w mg fa h KX G hmg
    refine' My.all_mk KX G hmg ?acho ?lcho ?ccho ?kcho ?apen ?lpen ?cpen ?kpen ?adrw ?ldrw ?cdrw ?kdrw ?adue ?ldue ?cdue ?kdue ?arow ?lrow ?crow ?krow ?alaw ?llaw ?claw ?klaw ?zenumerate ?zlen ?zlist ?ztuple ?zrange ?zrepr
    (case acho => k_is)
    (case lcho => k_is)
    (case ccho => k_is)
    (case kcho => k_is)
    (case apen => k_is)
    (case lpen => k_is)
    (case cpen => k_is)
    (case kpen => k_is)
    (case adrw => k_is)
    (case ldrw => k_is)
    (case cdrw => k_is)
    (case kdrw => k_is)
    (case adue => k_is)
    (case ldue => k_is)
    (case cdue => k_is)
    (case kdue => k_is)
    (case arow => k_is)
    (case lrow => k_is)
    (case crow => k_is)
    (case krow => k_is)
    (case alaw => k_is)
    (case llaw => k_is)
    (case claw => k_is)
    (case klaw => k_is)
    (case zenumerate => k_is)
    (case zlen => k_is)
    (case zlist => k_is)
    (case ztuple => k_is)
    (case zrange => k_is)
    (case zrepr => k_is)

