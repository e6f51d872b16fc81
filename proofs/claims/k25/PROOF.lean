import PyProof.Rows.All
import Wide.All
import OpenK.AllK
import Wide.FinOn
import KE.KExcInit
import KE.KExcIs
import HandS.ForMost
import HandS.ForExc
import HandS.ExcInit
import HandS.ExcField
import HandS.Defaults
import HandS.IsInst
import PySem.Challenge.RW_rankloop_k25_refusals_made_by_hand
set_option Elab.async false
set_option linter.all false
set_option maxRecDepth 100000
set_option maxHeartbeats 4000000
namespace My
open PySem PySem.W PySem.Calls PyProof.Rows
/-- what the mro behind a class must have, for B's own maker -/
structure Tail (B : String) (bm : List Value) : Prop where
  has : bm.contains (.type B) = true
  noA : bm.contains (.type "AttributeError") = false
  noN : bm.contains (.type "NameError") = false
/-- what __init__ of the built-in class T is -/
structure InitF (T initId : String) : Prop where
  plain : Slot T "__init__" initId
  entry : entryFor table initId = some Builtin.«BaseException.__init__»
  split : splitId initId = some (T, "__init__")
  kind : builtinKind initId = some .slot
  row : Manifest.signature? initId = some ⟨.positional, "*", T, .self, [⟨"args", .varPos, false⟩]⟩
  star : (T != "*") = true
theorem InitF.of {T newId initId : String} (F : ExcCallFacts T newId initId) : InitF T initId :=
  ⟨F.init, F.initEntry, F.initSplit, F.initKind, F.initRow, F.noStar⟩
theorem initKey : InitF "KeyError" "KeyError.__init__" where
  plain := by
    refine .of (owner := "KeyError") (n := "__init__") ?_ ?_ ?_ ?_ ?_ ?_
    · rw [typeLookup_type, builtinLookup_eq_fast]; kernel_rfl
    · decide +kernel
    · decide +kernel
    · decide +kernel
    · first | exact .inl (by decide +kernel) | exact .inr (by decide +kernel)
    · rw [isSubtype_type]; kernel_rfl
  entry := by
    refine entryFor_alias (id' := "BaseException.__init__") ?_ ?_ ?_ ?_
    · rw [fastTable_eq_tree]; kernel_rfl
    · first | rfl | decide +kernel
    · decide +kernel
    · rw [fastTable_eq_tree]; kernel_rfl
  split := by kernel_rfl
  kind := by kernel_rfl
  row := by kernel_rfl
  star := by decide +kernel
abbrev keyTail : List Value := [.type "KeyError", .type "LookupError", .type "Exception", .type "BaseException", .type "object"]
theorem storeKey : StoreFacts "KeyError" keyTail "object.__setattr__" "object" := by
  refine { mro := ?a, slot := ?b, entry := F.entry_object_sa, kind := ?c, split := ?d, hasOwner := ?e, args := ?f, passes := ?g }
  case a => kernel_rfl
  case b =>
    refine .of (owner := "object") (n := "__setattr__") ?_ ?_ ?_ ?_ ?_ ?_
    · rw [typeLookup_type, builtinLookup_eq_fast]; kernel_rfl
    · decide +kernel
    · decide +kernel
    · decide +kernel
    · first | exact .inl (by decide +kernel) | exact .inr (by decide +kernel)
    · rw [isSubtype_type]; kernel_rfl
  case c => decide +kernel
  case d => decide +kernel
  case e => decide +kernel
  case f => intro a b c; unfold argsOk; kernel_rfl
  case g => intro self; kernel_rfl

section
variable {M : Model} {prog : Program} {w : World} {A : Around} {E : Value → Shared → Prop} {R : Result → Shared → Prop}
variable {h : Heap} {g : Array GenState} {d : Drawn} {t : Nat} {os : OsState}
variable {nm q : Str} {C N : Addr} {bs bm bmB : List Value} {hdct : Bool} {sn : List Str} {sub : List Value}
variable {ab : Bool} {col : Option Bool} {dd : Option Addr} {k0 k1 k2 k3 k5 : Option Value} {B newId initId T : String}
abbrev raw (C t : Addr) : Obj := { cls := .ref C, data := .fields #[.ref t, .none, .none, .none, .bool false, .none] }
theorem chkNew (F : ExcBaseFacts B newId initId bmB) (hT : Tail B bm) {rest : List Value} {kw : List (Str × Value)} {Q : Unit → Shared → Prop}
    (hC : h.get? C = some (excClassObj nm q C N bs bm hdct sn sub ab col dd k0 k1 k2 k3 k5 newId))
    (hq : Q () ⟨h, g, d, t, os⟩) : wpAny M A (checkBuiltinCall newId ⟨.ref C :: rest, kw⟩) Q E ⟨h, g, d, t, os⟩ := by
  have c1 : (Value.ref C :: bm).contains (.type B) = true := by
    rw [List.contains_cons, hT.has, Bool.or_true]
  have c2 := F.noStar
  simp only [checkBuiltinCall, F.newKind, F.newSplit, F.newRow]
  repeat (first
    | refine wpAny_loadPart_at hC ?_
    | (refine wpAny_isSubtype_exc hC ?_; rw [c1])
    | refine wpAny_staticBase_exc hC ?_
    | refine wpAny_madeBy_exc hC ?_
    | simp only [bne_self_eq_false, Bool.false_eq_true, if_false]
    | wp_step)
  exact hq
theorem newIt (F : ExcBaseFacts B newId initId bmB) (hT : Tail B bm) {rest : List Value} {kw : List (Str × Value)}
    (hC : h.get? C = some (excClassObj nm q C N bs bm hdct sn sub ab col dd k0 k1 k2 k3 k5 newId)) (hz : rest.length ≤ sizeLine)
    (hq : R (.ok (.ret (.ref (h.objs.size + 1)))) ⟨(h.push { cls := .type "tuple", data := .seq rest.toArray }).push (raw C h.objs.size), g, d, t, os⟩) :
    codeAny (model prog w) A (.builtin newId ⟨.ref C :: rest, kw⟩) R ⟨h, g, d, t, os⟩ := by
  have e0 := F.ends
  have e1 : (Value.ref C :: bm).contains (.type B) = true := by
    rw [List.contains_cons, hT.has, Bool.or_true]
  have e2 : (Value.ref C :: bm).contains (.type "AttributeError") = false := by
    rw [List.contains_cons, hT.noA]; rfl
  have e3 : (Value.ref C :: bm).contains (.type "NameError") = false := by
    rw [List.contains_cons, hT.noN]; rfl
  refine codeAny_builtinAt F.entry ?_
  unfold Builtin.«BaseException.__new__»
  refine PySem.wpAt_bind ?_
  show PySem.wpAt _ _ _ (stack >>= _) _ _ _
  refine PySem.wpAt_bind (PySem.wpAt_stack fun p below => PySem.wpAt_of_wpAny ?_)
  wp_walk
  refine PySem.wpAt_of_wpAny ?_
  rw [F.owner]
  repeat (first
    | with_reducible refine wpAny_madeHere_exc F.canon hC ?_
    | with_reducible refine wpAny_loadPart_at hC ?_
    | (with_reducible refine wpAny_isSubtype_exc hC ?_
       first | rw [e1] | rw [e2] | rw [e3])
    | wp_step)
  show R _ _
  rw [Heap.size_push]
  exact hq
theorem typeIt (F : ExcBaseFacts B newId initId bmB) (hT : Tail B bm) {rest : List Value} {kw : List (Str × Value)} {fI : Addr} {Q : Fin → Shared → Prop}
    (hC : h.get? C = some (excClassObj nm q C N bs bm hdct sn sub ab col dd k0 k1 k2 k3 k5 newId))
    (hi : Looks (model prog w) h (typeLookup (.ref C) "__init__") (some (.ref fI)))
    (hb : ∀ self, Looks (model prog w) h (bindSpecial (.ref fI) self) (.ref fI, [self])) (hz : rest.length ≤ sizeLine)
    (hq : codeAny (model prog w) A (.call (.ref fI) ⟨.ref (h.objs.size + 1) :: rest, kw⟩)
      (fun r s' => match r with | .ok (.ret v) => v = .none ∧ Q (.done (.ret (.ref (h.objs.size + 1)))) s' | .ok _ => False | .error e => E e s')
      ⟨(h.push (kdv_tup rest)).push (raw C h.objs.size), g, d, t, os⟩) :
    wpAny (model prog w) A (Builtin.«type.__call__» ⟨.ref C :: rest, kw⟩) Q E ⟨h, g, d, t, os⟩ := by
  repeat (first
    | with_reducible refine wpAny_loadPart_at hC ?_
    | with_reducible refine wpAny_madeBy_exc hC ?_
    | wp_step)
  refine codeAny_call_builtin_code (Code.quiet_builtin _ F.quiet) (chkNew F hT hC ?_)
  refine newIt F hT hC hz ?_
  show wpAny _ _ _ _ _ _
  have kk : ∀ b o, h.get? b = some o → ((h.push (kdv_tup rest)).push (raw C h.objs.size)).get? b = some o := fun b o e =>
    Heap.get?_push_of_some _ (Heap.get?_push_of_some _ e)
  have hC1 := kk _ _ hC
  have at1 : ((h.push (kdv_tup rest)).push (raw C h.objs.size)).get? (h.objs.size + 1) = some (raw C h.objs.size) := by
    heap_get
  have cc : (Value.ref C :: bm).contains (.ref C) = true := by simp
  have l1 := hi.keeps kk
  have l2 := (hb (.ref (h.objs.size + 1))).keeps kk
  unfold isInstance
  repeat (first
    | with_reducible refine wpAny_loadPart_at at1 ?_
    | (with_reducible refine wpAny_isSubtype_exc hC1 ?_; rw [cc])
    | wp_step)
  show wpAny _ _ (typeLookup (.ref C) _) _ _ _
  refine l1.at ?_
  refine wpAny_holding (wpAny_bind (l2.at ?_))
  refine wpAny_bind (wpAny_call (codeAny_mono hq fun r s' z => ?_))
  rcases r with e | (v | _ | _ | _) <;> first | exact z | exact z.elim | skip
  obtain ⟨rfl, z⟩ := z
  first
    | exact wpAny_pure (wpAny_pure z)
    | (wp_walk; exact z)
theorem chkCall {rest : List Value} {kw : List (Str × Value)} {Q : Unit → Shared → Prop}
    (hC : h.get? C = some (excClassObj nm q C N bs bm hdct sn sub ab col dd k0 k1 k2 k3 k5 newId))
    (hq : Q () ⟨h, g, d, t, os⟩) : wpAny M A (checkBuiltinCall "type.__call__" ⟨.ref C :: rest, kw⟩) Q E ⟨h, g, d, t, os⟩ := by
  have f3 := tc_sub
  have hT : (⟨h, g, d, t, os⟩ : Shared).TypeIs (.ref C) "type" := ⟨_, hC, rfl⟩
  simp only [checkBuiltinCall, tc_kind, tc_split]
  repeat (any_goals (first
    | assumption
    | with_reducible refine wpAny_loadPart_at hC ?_
    | with_reducible refine wpAny_onRaise ?_
    | with_reducible refine wpAny_map ?_
    | wp_step))
theorem callIt (F : ExcBaseFacts B newId initId bmB) (hT : Tail B bm) {rest : List Value} {kw : List (Str × Value)} {fI : Addr}
    (hC : h.get? C = some (excClassObj nm q C N bs bm hdct sn sub ab col dd k0 k1 k2 k3 k5 newId))
    (hi : Looks (model prog w) h (typeLookup (.ref C) "__init__") (some (.ref fI)))
    (hb : ∀ self, Looks (model prog w) h (bindSpecial (.ref fI) self) (.ref fI, [self])) (hz : rest.length ≤ sizeLine)
    (hq : codeAny (model prog w) (A.under (.builtin "type.__call__" ⟨.ref C :: rest, kw⟩)) (.call (.ref fI) ⟨.ref (h.objs.size + 1) :: rest, kw⟩) (InitBack (h.objs.size + 1) R)
      ⟨(h.push (kdv_tup rest)).push (raw C h.objs.size), g, d, t, os⟩) :
    codeAny (model prog w) A (.call (.ref C) ⟨rest, kw⟩) R ⟨h, g, d, t, os⟩ := by
  have f1 := tc_lookup
  have f2 := tc_bind (.ref C)
  have ty : (⟨h, g, d, t, os⟩ : Shared).TypeIs (.ref C) "type" := ⟨_, hC, rfl⟩
  refine codeAny_of_tree ?_
  show wpAny _ _ (callAny (.ref C) _) _ _ _
  repeat (any_goals (first
    | assumption
    | with_reducible refine wpAny_loadPart_at hC ?_
    | wp_step))
  refine ⟨rfl, ?_⟩
  refine codeAny_call_builtin_at (Code.quiet_builtin _ (by decide +kernel)) entry_typeCall (chkCall hC (typeIt F hT hC hi hb hz ?_))
  refine codeAny_mono hq fun r s' z => ?_
  rcases r with e | (v | _ | _ | _) <;> exact z
/-- T.__init__(e, ..), T a built-in class that the class of e has: the args are laid anew -/
theorem initIt (F : InitF T initId) (hT : bm.contains (.type T) = true) {e t0 : Addr} {rest : List Value}
    (hC : h.get? C = some (excClassObj nm q C N bs bm hdct sn sub ab col dd k0 k1 k2 k3 k5 newId))
    (he : h.get? e = some (raw C t0)) (hz : rest.length ≤ sizeLine)
    (hq : ∀ h' t1, (∀ b o, b ≠ e → h.get? b = some o → h'.get? b = some o) → h'.get? e = some (raw C t1) → R (.ok (.ret .none)) ⟨h', g, d, t, os⟩) :
    codeAny (model prog w) A (.call (.builtin initId) ⟨.ref e :: rest, []⟩) R ⟨h, g, d, t, os⟩ := by
  have c1 : (Value.ref C :: bm).contains (.type T) = true := by
    rw [List.contains_cons, hT, Bool.or_true]
  have c2 := F.star
  have chk : ∀ {M : Model} {A : Around} {E : Value → Shared → Prop} {Q : Unit → Shared → Prop}, Q () ⟨h, g, d, t, os⟩ → wpAny M A (checkBuiltinCall initId ⟨.ref e :: rest, []⟩) Q E ⟨h, g, d, t, os⟩ := by
    intro M A E Q hQ
    simp only [checkBuiltinCall, F.kind, F.split, F.row]
    repeat (first
      | with_reducible refine wpAny_loadPart_at he ?_
      | with_reducible refine wpAny_loadPart_at hC ?_
      | (with_reducible refine wpAny_isSubtype_exc hC ?_; rw [c1])
      | wp_step)
    refine wpAny_onRaise ?_
    rw [show ∀ (a b : String) (n : Nat), Bind.check ⟨.positional, "*", T, .self, [⟨"args", .varPos, false⟩]⟩ a b n (List.map (fun x => x.fst) ({ pos := Value.ref e :: rest } : Args).kw) = pure ()
      from fun a b n => check_star_args _ _ _ _ _ _]
    exact wpAny_pure hQ
  refine codeAny_call_builtin F.plain.plain F.entry (chk ?_)
  wp_walk
  refine hq _ h.objs.size (fun b o hb ho => ?_) ?_
  · rw [Heap.get?_update_other _ _ (Ne.symm hb)]
    exact Heap.get?_push_of_some _ ho
  · rw [Heap.get?_update_self _ (Heap.get?_push_of_some _ he) rfl]
    rfl
end

/-! ### self.f = v -/
section
open Builtin Builtin.ObjectAttr
variable {prog : Program} {w : World} {A : Around} {E : Value → Shared → Prop} {R : Result → Shared → Prop}
variable {hp : Heap} {g : Array GenState} {d : Drawn} {t : Nat} {os : OsState} {K : Frag} {B : String} {bmB : List Value}
theorem setNew (SF : StoreFacts B bmB "object.__setattr__" "object") {name : Str} {tk : Tok} {v : Value} {x C : Addr} {fv : Array Value}
    (X : K.In hp) (hx : hp.get? x = some { cls := .ref C, data := .fields fv }) (ov : excOver K C bmB = true) (hd : hasDictIn K C = true) (ht : takerIn K C name = some none)
    (hq : ∀ h' tk' dx, (∀ b o, b ≠ x → hp.get? b = some o → h'.get? b = some o) → hp.objs.size ≤ dx → dx ≠ x →
      h'.get? x = some { cls := .ref C, dict := some dx, data := .fields fv } →
      h'.Ns1 dx (fun y => if y = name then some v else none) → R (.ok (.ret .none)) ⟨h', g, d, tk', os⟩) :
    codeAny (model prog w) A (.call (.builtin "object.__setattr__") ⟨[.ref x, .str name tk, v], []⟩) R ⟨hp, g, d, t, os⟩ := by
  have I : InstAt hp x { cls := .ref C, data := .fields fv } C none := ⟨hx, rfl, rfl, trivial⟩
  have xs : x ≠ hp.objs.size := Nat.ne_of_lt (Heap.lt_size hx)
  obtain ⟨cd, hcd, hh⟩ := any_some hd
  have hcls : Looks (model prog w) hp (classData C) cd := looks_clsIn X hcd
  refine osa_openX (s := ⟨hp, g, d, t, os⟩) SF X I ov ht fun b => ?_
  show wpAny _ _ (storeInOwnDict (.ref x) (.ref C) (.str name tk) name v b) _ _ _
  obtain ⟨nm, bs, mro, ns, qn, hd', sn, sb, ab, col, del⟩ := cd
  have hh' : hd' = true := hh
  subst hh'
  unfold storeInOwnDict ownDictForStores
  repeat (first
    | with_reducible refine HandSPX.store_in_new ?_ ?_
    | with_reducible refine wpAny_loadPart_at hx ?_
    | with_reducible refine hcls.at ?_
    | wp_step)
  · exact ⟨_, #[], _, (Heap.get?_update_ne _ _ _ _ xs.symm).trans (Heap.get?_push_at rfl rfl), rfl, fun e he => absurd he (by simp), fun _ => rfl⟩
  · intro h' tk' hn' hs
    have hx1 : (hp.push { cls := .type "dict", data := .dict #[] }).get? x = some { cls := .ref C, data := .fields fv } :=
      Heap.get?_push_of_some _ hx
    refine hq h' tk' hp.objs.size (fun b o hb ho => ?_) (Nat.le_refl _) xs.symm ?_ hn'
    · exact (hs.2 b (Nat.ne_of_lt (Heap.lt_size ho))).trans ((Heap.get?_update_ne _ _ _ _ hb).trans (Heap.get?_push_of_some _ ho))
    · exact (hs.2 x xs).trans (Heap.get?_update_self _ hx1 rfl)
theorem setOld (SF : StoreFacts B bmB "object.__setattr__" "object") {name : Str} {tk : Tok} {v : Value} {x C dx : Addr} {fv : Array Value} {m0 : Str → Option Value} {nl : List Str}
    (X : K.In hp) (hx : hp.get? x = some { cls := .ref C, dict := some dx, data := .fields fv }) (hns : hp.Ns1 dx m0) (hw : Within m0 nl) (hz : nl.length ≤ 1000)
    (ov : excOver K C bmB = true) (hd : hasDictIn K C = true) (ht : takerIn K C name = some none)
    (hq : ∀ h' tk', (∀ b o, b ≠ dx → hp.get? b = some o → h'.get? b = some o) → h'.Ns1 dx (fun y => if y = name then some v else m0 y) → R (.ok (.ret .none)) ⟨h', g, d, tk', os⟩) :
    codeAny (model prog w) A (.call (.builtin "object.__setattr__") ⟨[.ref x, .str name tk, v], []⟩) R ⟨hp, g, d, t, os⟩ := by
  obtain ⟨oD, esD, epD, hoD, hdD, _⟩ := hns.count hw
  have I : InstAt hp x { cls := .ref C, dict := some dx, data := .fields fv } C (some oD) := ⟨hx, rfl, rfl, hoD⟩
  obtain ⟨cd, hcd, hh⟩ := any_some hd
  have hcls : Looks (model prog w) hp (classData C) cd := looks_clsIn X hcd
  refine osa_openX (s := ⟨hp, g, d, t, os⟩) SF X I ov ht fun b => ?_
  show wpAny _ _ (storeInOwnDict (.ref x) (.ref C) (.str name tk) name v b) _ _ _
  obtain ⟨nm, bs, mro, ns, qn, hd', sn, sb, ab, col, del⟩ := cd
  have hh' : hd' = true := hh
  subst hh'
  unfold storeInOwnDict ownDictForStores
  repeat (first
    | with_reducible refine OEX.store_in_old hns hw hz ?_
    | with_reducible refine wpAny_loadPart_at hx ?_
    | with_reducible refine hcls.at ?_
    | wp_step)
  intro h' tk' hn' hs
  exact hq h' tk' (fun b o hb ho => (hs.2 b hb).trans ho) hn'
end
end My

set_option Elab.async false
set_option linter.all false
set_option maxRecDepth 100000
set_option maxHeartbeats 4000000
namespace My
open PySem L2 PyProof.Rows
/-- an exception class of the program straight under the built-in class T, as the top has written it -/
structure XC (K : PySem.W.Frag) (C : Addr) (T : String) : Prop where
  ini : ∃ B newId initId bmB bmF, PySem.W.excInitIn K C bmB newId = true ∧ ExcBaseFacts B newId initId bmF ∧ Tail B bmB ∧ bmB.contains (.type T) = true
  sto : ∃ B bmB, StoreFacts B bmB "object.__setattr__" "object" ∧ PySem.W.excOver K C bmB = true
  sa : PySem.W.findIn K (.ref C) "__setattr__" = some (some (.builtin "object.__setattr__"))
  hd : PySem.W.hasDictIn K C = true
  kp : PySem.W.keepIn K (.ref C) = true
  ga : PySem.W.findIn K (.ref C) "__getattribute__" = some (some (.builtin "BaseException.__getattribute__"))
  gg : PySem.W.findIn K (.ref C) "__getattr__" = some none
  ex : PySem.W.subIn K (.ref C) (.type "BaseException") = some true
  cl : PySem.W.findIn K (.ref C) "__class__" = some (some (.builtin "object.__class__"))
  sp : PySem.W.specialIn K (.builtin "object.__class__") "__get__" = some (some (.builtin "getset_descriptor.__get__"))
  tk : PySem.W.takesIn K (.builtin "object.__class__") = some true
  mr : PySem.W.mroIn K C (.type "object") = some true
theorem XC.at {K : PySem.W.Frag} {C : Addr} {T : String} {h : Heap} (x : XC K C T) (X : K.In h) : ∃ nm N qn bs bm hdct sn sub ab col dd k0 k1 k2 k3 k5 B newId initId bmF,
    h.get? C = some (excClassObj nm qn C N bs bm hdct sn sub ab col dd k0 k1 k2 k3 k5 newId) ∧ ExcBaseFacts B newId initId bmF ∧ Tail B bm ∧ bm.contains (.type T) = true := by
  obtain ⟨B, newId, initId, bmB, bmF, q, F, tl, hT⟩ := x.ini
  obtain ⟨nm, N, qn, bs, bm, hdct, sn, sub, ab, col, dd, k0, k1, k2, k3, k5, hC, hc⟩ := PySem.W.excInit_of X q
  exact ⟨nm, N, qn, bs, bm, hdct, sn, sub, ab, col, dd, k0, k1, k2, k3, k5, B, newId, initId, bmF, hC, F, ⟨(hc _).trans tl.has, (hc _).trans tl.noA, (hc _).trans tl.noN⟩, (hc _).trans hT⟩
/-- at a: an exception of the class at C with these fields -/
def XAt (H : Hp) (a C : Addr) (fs : List (Str × V)) : Prop := (fs = [] ∧ H a = some (exo a C none)) ∨ ∃ dx, H a = some (exo a C (some dx)) ∧ H dx = some (exd dx fs)
section
variable {X : Cx} {pins : List (Addr × Obj)} {σ : L2.St} {H : Hp} {s : Shared} {a C dx fI : Addr} {f : Str} {y : V} {u : Value} {fs : List (Str × V)} {A : Around} {T initId : String}
/-- the first field -/
theorem put1 {Q : Unit → Shared → Prop} {E : Value → Shared → Prop} (x : XC X.K C T) (I : Inv X pins σ H s) (e : H a = some (exo a C none)) (hno : PySem.W.findIn X.K (.ref C) f = some none) (ry : RelV y u)
    (h : ∀ dx s', H dx = none → dx ≠ a → Inv X pins σ (upd (upd H dx (exd dx [(f, y)])) a (exo a C (some dx))) s' → Q () s') :
    wpAny (model X.prog X.w) A (setAttr (.ref a) f u) Q E s := by
  obtain ⟨B, bmB, SF, ov⟩ := x.sto
  obtain ⟨t1, ho⟩ := exo_at I.hok e
  obtain ⟨hp, g, d, t, os⟩ := s
  refine PySem.W.set_plain I.kIn (ox := { cls := .ref C, dict := none, data := .fields #[.ref t1, .none, .none, .none, .bool false, .none] }) (od := none) ⟨ho, rfl, rfl, trivial⟩ x.sa ?_
  have htk : PySem.W.takerIn X.K C f = some none := by
    unfold PySem.W.takerIn
    rw [hno]; rfl
  refine setNew SF I.kIn ho ov x.hd htk (fun h' tk' dx k dn dne hx hn => ?_)
  have hnd : H dx = none := I.hok.fresh dn
  have nd : ∀ {b : Addr} {o : Obj}, hp.get? b = some o → b ≠ dx := fun {b o} z => Nat.ne_of_lt (Nat.lt_of_lt_of_le (Heap.lt_size z) dn)
  have na : ∀ {b : Addr}, H b = none → b ≠ a := fun {b} n z => by
    rw [z, e] at n
    cases n
  have U : Un X.fs [] H (upd (upd H dx (exd dx [(f, y)])) a (exo a C (some dx))) hp h' := by
    refine ⟨fun b o z n _ _ => k b o (na n) z, fun b o z n _ _ => ⟨o.slots, k b o (na n) z⟩, fun b o z n _ => ?_, fun b o z _ => ?_, fun b xs z => ?_, fun b o v z => ?_, fun b ps z => ⟨#[], ?_⟩⟩
    · rw [upd_ne (na n), upd_ne (nd z)]; exact n
    · by_cases hb : b = a
      · exact ⟨_, by rw [hb]; exact hx⟩
      · exact ⟨o, k b o hb z⟩
    · rw [upd_ne (at_ne e z exo_tup), upd_ne (ne_of_none z hnd)]; exact z
    · rw [upd_ne (at_ne e z exo_frz), upd_ne (ne_of_none z hnd)]; exact z
    · rw [upd_ne (at_ne e z exo_tbl), upd_ne (ne_of_none z hnd), z]; simp
  refine h dx _ hnd dne (I.un (t' := tk') U fun b o z => ?_)
  by_cases hb : b = a
  · subst hb
    rw [upd_same] at z
    cases z
    exact exo_ok hx
  · rw [upd_ne hb] at z
    by_cases hd : b = dx
    · subst hd
      rw [upd_same] at z
      cases z
      exact exd_ok hn (relO_put (fs := []) ry fun g => True.intro)
    · rw [upd_ne hd] at z
      refine (I.hok b o z).stay (fun c v hc z => k c v ?_ z) (fun c hc => ?_) (fun c xs hc => ?_)
      · rcases hc with hc | hc
        · rw [hc]; exact hb
        · exact at_ne e hc exo_own
      · rw [upd_ne (at_ne e hc exo_own), upd_ne (ne_of_none hc hnd)]; exact hc
      · rw [upd_ne (at_ne e hc exo_tup), upd_ne (ne_of_none hc hnd)]; exact hc
/-- a further field -/
theorem put2 {Q : Unit → Shared → Prop} {E : Value → Shared → Prop} (x : XC X.K C T) (I : Inv X pins σ H s) (e : H a = some (exo a C (some dx))) (ed : H dx = some (exd dx fs)) (hl : fs.length ≤ 900)
    (hno : PySem.W.findIn X.K (.ref C) f = some none) (ry : RelV y u) (h : ∀ s', Inv X pins σ (upd H dx (exd dx ((f, y) :: fs))) s' → Q () s') :
    wpAny (model X.prog X.w) A (setAttr (.ref a) f u) Q E s := by
  obtain ⟨B, bmB, SF, ov⟩ := x.sto
  obtain ⟨t1, ho⟩ := exo_at I.hok e
  obtain ⟨mA, hns, rel⟩ := exd_at I.hok ed
  have hw := within_of rel
  obtain ⟨hp, g, d, t, os⟩ := s
  obtain ⟨oD, _, _, hoD, _, _⟩ := hns.count hw
  refine PySem.W.set_plain I.kIn (ox := { cls := .ref C, dict := some dx, data := .fields #[.ref t1, .none, .none, .none, .bool false, .none] }) (od := some oD) ⟨ho, rfl, rfl, hoD⟩ x.sa ?_
  have htk : PySem.W.takerIn X.K C f = some none := by
    unfold PySem.W.takerIn
    rw [hno]; rfl
  refine setOld SF I.kIn ho hns hw (by rw [List.length_map]; omega) ov x.hd htk (fun h' tk' k hn => ?_)
  have hd : ∃ o, h'.get? dx = some o := by
    obtain ⟨o, _, _, e', _⟩ := hn
    exact ⟨o, e'⟩
  exact h _ (I.write (t' := tk') (x := dx) (e := dx) (o := exd dx ((f, y) :: fs)) (by rw [ed]; exact True.intro) (.inl rfl) k hd (exd_ok hn (relO_put ry rel)))
/-- T.__init__(self, ..) -/
theorem base_init {us : List Value} {Q : Value → Shared → Prop} {E : Value → Shared → Prop} (F : InitF T initId) (x : XC X.K C T) (I : Inv X pins σ H s) (e : H a = some (exo a C none)) (hl : us.length ≤ sizeLine) (h : ∀ s', Inv X pins σ H s' → Q .none s') :
    wpAny (model X.prog X.w) A (call (.builtin initId) (.ref a :: us)) Q E s := by
  obtain ⟨nm, N, qn, bs, bm, hdct, sn, sub, ab, col, dd, k0, k1, k2, k3, k5, B, newId, initB, bmF, hC, _, _, hT⟩ := x.at I.kIn
  obtain ⟨t1, ho⟩ := exo_at I.hok e
  obtain ⟨hp, g, d, t, os⟩ := s
  refine wpAny_call (initIt F hT hC ho hl fun h' t2 k hx => ?_)
  have J := I.write (t' := t) (x := a) (e := a) (o := exo a C none) (by rw [e]; exact True.intro) (.inl rfl) k ⟨_, hx⟩ (exo_ok hx)
  have eu : upd H a (exo a C none) = H := by
    funext b
    by_cases hb : b = a
    · rw [hb, upd_same, e]
    · rw [upd_ne hb]
  rw [eu] at J
  exact h _ J
/-- C(..), whatever is written: the exception is laid, then its __init__ -/
theorem run_xm {CX : CXT} {k : Nat} {fd : FuncData} {ps : List Str} {sp : Sp} {us : List Value} {kw : List (Str × Value)} {fu : Value → List Value} {fv : V → List V} {Q : VK} (x : XC X.K C T)
    (iC : PySem.W.findIn X.K (.ref C) "__init__" = some (some (.ref fI))) (tI : PySem.W.typeIn X.K (.ref fI) = some (.type "function"))
    (F1 : FnOk X.prog X.w X.K X.mg X.base CX k fI fd ps sp) (hr : Room (k + 1) X.A) (hx : Passes CX X (fun _ _ _ => False)) (I : Inv X pins σ H s) (hus : us.length ≤ sizeLine)
    (hb : ∀ (s' : Shared) (self : Value), X.K.In s'.heap → BindsTo s' fd ⟨self :: us, kw⟩ (ps.zip (fu self))) (hv : ∀ a, Vals (fv (.ref a)) (fu (.ref a)))
    (h : ∀ a, H a = none → sp (fv (.ref a)) (upd H a (exo a C none)) (fun v H3 => v = .non ∧ Q (.ref a) H3) (fun _ _ _ => False)) :
    wpAny (model X.prog X.w) X.A (call (.ref C) us kw) (EP X pins σ Q) X.xe s := by
  obtain ⟨nm, N, qn, bs, bm, hdct, sn, sub, ab, col, dd, k0, k1, k2, k3, k5, B, newId, initB, bmF, hC, FB, tl, _⟩ := x.at I.kIn
  have li := PySem.W.looks_findIn (M := model X.prog X.w) I.kIn iC
  have lb := fun self => PySem.W.bind_fn (M := model X.prog X.w) I.kIn self tI
  obtain ⟨hp, g, dr, tk, os⟩ := s
  have hsz : hp.objs.size ≤ hp.objs.size + 1 := Nat.le_succ _
  have hq := h (hp.objs.size + 1) (I.hok.fresh hsz)
  have kk : ∀ b o, hp.get? b = some o → ((hp.push (PySem.W.kdv_tup us)).push (raw C hp.objs.size)).get? b = some o := fun b o e =>
    Heap.get?_push_of_some _ (Heap.get?_push_of_some _ e)
  have hget : ((hp.push (PySem.W.kdv_tup us)).push (raw C hp.objs.size)).get? (hp.objs.size + 1) = some (raw C hp.objs.size) := by
    heap_get
  have I2 : Inv X pins σ (upd H (hp.objs.size + 1) (exo (hp.objs.size + 1) C none)) ⟨(hp.push (PySem.W.kdv_tup us)).push (raw C hp.objs.size), g, dr, tk, os⟩ :=
    I.laid (t' := tk) (a := hp.objs.size + 1) (o := exo (hp.objs.size + 1) C none) kk hsz (exo_ok hget)
  refine wpAny_call (callIt FB tl hC li lb hus (codeAny_mono (F1.run _ X.stack _ _ ⟨Value.ref (hp.objs.size + 1) :: us, kw⟩ (fu (.ref (hp.objs.size + 1))) _ _ (fun _ _ _ => False)
    (hr.make C us kw) (I2.env0.make C us kw) (hb _ _ I2.kIn) (hv _) hq) fun r s' hq' => ?_))
  cases r with
  | error er => exact hx pins σ _ _ er s' I2 hq'
  | ok fl =>
    cases fl with
    | ret u =>
      obtain ⟨v, H', I3, rv, ev, q3⟩ := I2.after hq'
      subst ev
      exact ⟨rv, ⟨V.ref (hp.objs.size + 1), H', I3, rfl, q3⟩⟩
    | next => exact False.elim hq'
    | brk => exact False.elim hq'
    | cont => exact False.elim hq'
/-- what isinstance asks of it -/
theorem kit_x (x : XC X.K C T) (I : Inv X pins σ H s) (hX : XAt H a C fs) : ∃ P : Heap → Prop, PySem.W.KitX X.K (.ref a) (.ref C) P ∧ P s.heap := by
  have hcl : (PySem.W.clsIn X.K C).isSome = true := by
    obtain ⟨cd, hc, _⟩ := PySem.W.any_some x.hd
    rw [hc]; rfl
  rcases hX with ⟨_, e⟩ | ⟨dx, e, ed⟩
  · obtain ⟨t1, ho⟩ := exo_at I.hok e
    exact ⟨_, PySem.W.kitx_exc (od := none) (ox := _) hcl x.ga x.gg x.ex x.cl x.sp x.tk x.mr, ⟨ho, rfl, rfl, trivial⟩⟩
  · obtain ⟨t1, ho⟩ := exo_at I.hok e
    obtain ⟨mA, hns, rel⟩ := exd_at I.hok ed
    obtain ⟨oD, hoD, _⟩ := lookIn_ns hns
    exact ⟨_, PySem.W.kitx_exc (od := some oD) (ox := _) hcl x.ga x.gg x.ex x.cl x.sp x.tk x.mr, ⟨ho, rfl, rfl, hoD⟩⟩
end
/-! ### readings and rules -/
def tBI (K : PySem.W.Frag) (T : String) (ta : TA) : TE := fun σ H Q => ta σ H fun vs H1 => ∃ (a C : Addr) (ws : List V), vs = .ref a :: ws ∧ ws.length ≤ 1000 ∧ XC K C T ∧ H1 a = some (exo a C none) ∧ Q .non H1
def tXs (K : PySem.W.Frag) (T : String) (f : Str) (to te : TE) : TS := fun D σ H => te σ H fun y H1 => to σ H1 fun x H2 => ∃ a C : Addr, x = .ref a ∧ XC K C T ∧ PySem.W.findIn K (.ref C) f = some none ∧
  ((H2 a = some (exo a C none) ∧ ∀ dx, H2 dx = none → dx ≠ a → D.nx σ (upd (upd H2 dx (exd dx [(f, y)])) a (exo a C (some dx)))) ∨
    ∃ (dx : Addr) (fs : List (Str × V)), H2 a = some (exo a C (some dx)) ∧ H2 dx = some (exd dx fs) ∧ fs.length ≤ 900 ∧ D.nx σ (upd H2 dx (exd dx ((f, y) :: fs))))
def tXm (C : Addr) (sp : Sp) (n m : Nat) (gV : V → List V → List V → List V) (t tk : TA) : TE := fun σ H Q => t σ H fun vs H1 => tk σ H1 fun zs H2 => vs.length = n ∧ zs.length = m ∧
  ∀ a, H2 a = none → sp (gV (.ref a) vs zs) (upd H2 a (exo a C none)) (fun v H3 => v = .non ∧ Q (.ref a) H3) (fun _ _ _ => False)
def tXg (K : PySem.W.Frag) (f : Str) (te : TE) : TE := fun σ H Q => te σ H fun x H1 => ∃ (a C dx : Addr) (T : String) (fs : List (Str × V)) (v : V), x = .ref a ∧ XC K C T ∧ PySem.W.findIn K (.ref C) f = some none ∧
  H1 a = some (exo a C (some dx)) ∧ H1 dx = some (exd dx fs) ∧ fs.lookup f = some v ∧ Q v H1
def rIsX (K : PySem.W.Frag) : List V → Hp → VK → Prop := fun xs H Q => ∃ (a C : Addr) (c : V) (T : String) (fs : List (Str × V)) (u : Value) (b : Bool), xs = [.ref a, c] ∧ ClsV c u ∧ XC K C T ∧ XAt H a C fs ∧ PySem.W.kitOne K (.ref C) u = some b ∧ Q (.bl b) H
def rIsXT (K : PySem.W.Frag) : List V → Hp → VK → Prop := fun xs H Q => ∃ (a C tp : Addr) (cs : List V) (T : String) (fs : List (Str × V)) (us : List Value) (b : Bool), xs = [.ref a, .ref tp] ∧ H tp = some (.tup cs) ∧ Paired ClsV cs us ∧ XC K C T ∧ XAt H a C fs ∧
  PySem.W.kitAny K (.ref C) us = some b ∧ Q (.bl b) H
section
variable {X : Cx} {o e : Expr} {es : List Expr} {kws : List Keyword} {to te : TE} {ta tk : TA} {f x : Str} {p p' p1 p2 pos : Pos} {T initId : String} {S : Str}
theorem pe_binit {pl : Sem Bool} (F : InitF T initId) (hS : Str.ofString T = S) (hg : Gl X S) (hm : X.mg S = none) (hv : bootBuiltins S = some (.type T)) (hty : typeOf (.type T) = pure (.type "type")) (hst : Manifest.isStub T = false)
    (hn : S ≠ "__name__") (hd : (S == ("__debug__" : Str)) = false) (hh : PySem.W.handedIn (.builtin initId) = true)
    (vV : PySem.W.findCls X.K (.type T) (.type "type") "__init__" = some (.val (.builtin initId))) (ha : PA X (e :: es) ta)
    (hc : eval (.Call (.Attribute (.Name S p1) "__init__" p2) (e :: es) [] pos) X.env = (do
      let ov ← eval (.Name S p1) X.env
      standAt p2.atName
      let (f, first) ← holding [ov] (getMethod ov "__init__" pl)
      callWith pos f first (backTo pos (starEach (e :: es) X.env)) (backToKw pos (keywordEach [] X.env))) := by rfl)
    (he : starEach (e :: es) X.env = (false, eval e X.env) :: starEach es X.env := by rfl) (hpl : (backTo pos (starEach es X.env)).any (·.1) = false := by rfl) :
    PE X (.Call (.Attribute (.Name S p1) "__init__" p2) (e :: es) [] pos) (tBI X.K T ta) := by
  refine ⟨fun pins s σ H Q I h => ?_⟩
  refine PySem.W.methodCall_KW (ld_blt I hg hm hv ?_ hn hd) hc
  obtain ⟨m, fr⟩ := I.fr
  refine PySem.W.method_type fr I.ok.mod.kin hty hst vV hh ?_
  show wpAny _ _ (callWith pos (Value.builtin initId) [] (backTo pos (starEach (e :: es) X.env)) []) _ _ _
  refine PyProof.Rows.callWith_method1 (thn (ha.run pos pins _ σ H _ (I.tok _) h) fun us s1 ⟨vs, H1, I1, r1, a, C, ws, ev, hl, xc, ea, q⟩ => ?_) he hpl
  subst ev
  cases r1 with
  | @cons _ u0 _ ur ra rw' =>
    obtain rfl : u0 = Value.ref a := ra
    have hlen : ur.length ≤ sizeLine := by
      rw [← Paired.length rw', sizeLine_eq]
      omega
    exact base_init F xc I1 ea hlen fun s' J => ⟨.non, H1, J, rfl, q⟩
theorem ps_xst (ho : PE X o to) (he : PE X e te) (hs : swapsWith e (some (.Attribute o f p')) pos.line X.env = pure false := by rfl) : PS X (.Assign [.Attribute o f p'] e pos) (tXs X.K T f to te) := by
  refine ⟨fun pins s σ H D I h => ?_⟩
  refine plainObj_wpAny_Assign_Attribute (thn (he.run pins s σ H _ I h) fun v s1 ⟨y, H1, I1, r1, q1⟩ =>
    thn (ho.run pins s1 σ H1 _ I1 q1) fun u s2 ⟨x, H2, I2, r2, a, C, ex, xc, hno, q⟩ => ?_) hs
  subst ex
  obtain rfl : u = Value.ref a := r2
  rcases q with ⟨ea, q⟩ | ⟨dx, fs, ea, ed, hl, q⟩
  · exact put1 xc I2 ea hno r1 fun dx s' n ne J => ⟨σ, _, J, q dx n ne⟩
  · exact put2 xc I2 ea ed hl hno r1 fun s' J => ⟨σ, _, J, q⟩
theorem pe_xget (he : PE X e te) (hb : attributeBase e f X.env (eval e X.env) = eval e X.env := by rfl) : PE X (.Attribute e f pos) (tXg X.K f te) := by
  refine ⟨fun pins s σ H Q I h => ?_⟩
  refine attr_of hb (thn (he.run pins s σ H _ I h) fun u s1 hh => ?_)
  obtain ⟨x, H1, I1, rx, a, C, dx, T, fs, v, ex, xc, hno, ea, ed, l, q⟩ := hh
  subst ex
  obtain rfl : u = Value.ref a := rx
  obtain ⟨t1, ho⟩ := exo_at I1.hok ea
  obtain ⟨mA, hns, hr⟩ := exd_at I1.hok ed
  obtain ⟨od, hod, hl⟩ := lookIn_ns hns
  obtain ⟨u, hu, ru⟩ := RelO.some_of (v := v) (o := mA f) (by rw [← l]; exact hr f)
  have J : PySem.W.InstAt s1.heap a _ C (some od) := ⟨ho, rfl, rfl, hod⟩
  exact HandSPX.exc_get I1.kIn J xc.ga xc.gg xc.ex (PySem.W.findObj_own xc.hd hno rfl (by rw [hl, hu])) (handed_of ru) ⟨v, H1, I1.tok _, ru, q⟩
theorem call_isX : CallR X (.builtin "isinstance") (rIsX X.K) := by
  intro pins s σ H xs us Q I r h
  obtain ⟨a, C, c, T, fs, u, b, rfl, k, xc, hX, e, q⟩ := h
  obtain ⟨u1, u2, rfl, r1, r2⟩ := vals2 r
  have e2 := k.eq r2
  subst e2
  cases (show u1 = Value.ref a from r1)
  obtain ⟨P, Z, p⟩ := kit_x xc I hX
  exact PySem.W.kia_one Z I.kIn p e (fun z => nomatch z) fun tk => ⟨.bl b, H, I.tok tk, rfl, q⟩
theorem call_isXT : CallR X (.builtin "isinstance") (rIsXT X.K) := by
  intro pins s σ H xs us Q I r h
  obtain ⟨a, C, tp, cs, T, fs, ws, b, rfl, hT, k, xc, hX, e, q⟩ := h
  obtain ⟨u1, u2, rfl, r1, r2⟩ := vals2 r
  cases (show u2 = Value.ref tp from r2)
  cases (show u1 = Value.ref a from r1)
  obtain ⟨P, Z, p⟩ := kit_x xc I hX
  obtain ⟨_, its, rv, o, h1, h2, n, h3⟩ := (show ObjOk X.prog X.w H s.heap tp (.tup cs) from I.hok tp _ hT)
  have e3 := ClsV.all k rv
  subst e3
  obtain ⟨oc, od, dt, sl⟩ := o
  simp only at h2 h3
  subst h2 h3
  exact PySem.W.kia_tup Z I.kIn p h1 e (fun z => nomatch z) fun tk => ⟨.bl b, H, I.tok tk, rfl, q⟩
section
variable {CX : CXT} {k n : Nat} {C fI : Addr} {fd : FuncData} {ps ks : List Str} {sp : Sp} {g : Value → List Value → List Value → List Value} {gV : V → List V → List V → List V}
/-- how C's arguments come to __init__: n by place, ks by name -/
structure XB (K : PySem.W.Frag) (fd : FuncData) (ps : List Str) (n : Nat) (ks : List Str) (g : Value → List Value → List Value → List Value) (gV : V → List V → List V → List V) : Prop where
  to : ∀ (s : Shared) (self : Value) (us ws : List Value), K.In s.heap → us.length = n → ws.length = ks.length → BindsTo s fd ⟨self :: us, ks.zip ws⟩ (ps.zip (g self us ws))
  rel : ∀ {a : Addr} {vs zs : List V} {us ws : List Value}, vs.length = n → zs.length = ks.length → Vals vs us → Vals zs ws → Vals (gV (.ref a) vs zs) (g (.ref a) us ws)
/-- C(e, ..) by place alone -/
theorem pe_xm (x0 : XC X.K C T) (iC : PySem.W.findIn X.K (.ref C) "__init__" = some (some (.ref fI))) (tI : PySem.W.typeIn X.K (.ref fI) = some (.type "function"))
    (F1 : FnOk X.prog X.w X.K X.mg X.base CX k fI fd ps sp) (hr : Room (k + 1) X.A) (hx : Passes CX X (fun _ _ _ => False)) (hb : XB X.K fd ps n [] g gV) (hn : n ≤ 1000) (hg : Gl X x) (hm : X.mg x = some (.ref C)) (ha : PA X (e :: es) ta)
    (hdb : (x == ("__debug__" : Str)) = false := by decide) (he : starEach (e :: es) X.env = (false, eval e X.env) :: starEach es X.env := by rfl) (hpl : (backTo pos (starEach es X.env)).any (·.1) = false := by rfl) :
    PE X (.Call (.Name x p) (e :: es) [] pos) (tXm C sp n 0 gV ta tNil) := by
  refine ⟨fun pins s σ H Q I h => ?_⟩
  refine wpAny_Call_Name_kw (ld_glob I hg hm ?_ hdb)
  refine PySem.W.callWith_K (h₀ := X.base) I.ok.mod.kin x0.kp (thn (ha.run pos pins s σ H _ I h) fun us s1 ⟨vs, H1, I1, r, q⟩ => ⟨I1.kIn, ?_⟩) he hpl
  obtain ⟨l1, l2, q⟩ := q
  have lu : us.length = n := (Paired.length r).symm.trans l1
  show wpAny _ _ (call (.ref C) us) _ _ _
  exact run_xm (kw := []) (fu := fun self => g self us []) (fv := fun a => gV a vs []) x0 iC tI F1 hr hx I1 (by rw [lu, sizeLine_eq]; omega) (fun s' self kin => hb.to s' self us [] kin lu rfl) (fun a => hb.rel l1 rfl r .nil) q
/-- C() -/
theorem pe_xm0 (x0 : XC X.K C T) (iC : PySem.W.findIn X.K (.ref C) "__init__" = some (some (.ref fI))) (tI : PySem.W.typeIn X.K (.ref fI) = some (.type "function"))
    (F1 : FnOk X.prog X.w X.K X.mg X.base CX k fI fd ps sp) (hr : Room (k + 1) X.A) (hx : Passes CX X (fun _ _ _ => False)) (hb : XB X.K fd ps 0 [] g gV) (hg : Gl X x) (hm : X.mg x = some (.ref C))
    (hdb : (x == ("__debug__" : Str)) = false := by decide) : PE X (.Call (.Name x p) [] [] pos) (tXm C sp 0 0 gV tNil tNil) := by
  refine ⟨fun pins s σ H Q I h => ?_⟩
  refine wpAny_Call_Name_kw (ld_glob I hg hm ?_ hdb)
  obtain ⟨l1, l2, q⟩ := h
  exact PySem.W.callWith_K0 I.kIn x0.kp (run_xm (us := []) (kw := []) (fu := fun self => g self [] []) (fv := fun a => gV a [] []) x0 iC tI F1 hr hx I (by rw [sizeLine_eq]; exact Nat.zero_le _)
    (fun s' self kin => hb.to s' self [] [] kin rfl rfl) (fun a => hb.rel rfl rfl .nil .nil) q)
/-- C(k = v, ..) -/
theorem pe_xmK (x0 : XC X.K C T) (iC : PySem.W.findIn X.K (.ref C) "__init__" = some (some (.ref fI))) (tI : PySem.W.typeIn X.K (.ref fI) = some (.type "function"))
    (F1 : FnOk X.prog X.w X.K X.mg X.base CX k fI fd ps sp) (hr : Room (k + 1) X.A) (hx : Passes CX X (fun _ _ _ => False)) (hb : XB X.K fd ps 0 ks g gV) (hg : Gl X x) (hm : X.mg x = some (.ref C)) (hkw : PK X kws tk)
    (hall : (backToKw pos (keywordEach kws X.env)).all (·.1.isSome) = true := by rfl) (hks : (backToKw pos (keywordEach kws X.env)).filterMap (·.1) = ks := by rfl) (hdb : (x == ("__debug__" : Str)) = false := by decide)
    (hpl : ((backTo pos (starEach [] X.env)).any (·.1) || (backToKw pos (keywordEach kws X.env)).any (·.1.isNone)) = false := by rfl) :
    PE X (.Call (.Name x p) [] kws pos) (tXm C sp 0 ks.length gV tNil tk) := by
  refine ⟨fun pins s σ H Q I h => ?_⟩
  refine wpAny_Call_Name_kw (ld_glob I hg hm ?_ hdb)
  refine PySem.W.callWith_KW0 (h₀ := X.base) I.ok.mod.kin x0.kp hall ?_ hpl
  refine thn (hkw.run pos pins s σ H _ I h) fun ws s2 ⟨zs, H2, I2, rz, l1, l2, q2⟩ => ⟨I2.kIn, ?_⟩
  rw [hks]
  exact run_xm (us := []) (kw := ks.zip ws) (fu := fun self => g self [] ws) (fv := fun a => gV a [] zs) x0 iC tI F1 hr hx I2 (by rw [sizeLine_eq]; exact Nat.zero_le _)
    (fun s' self kin => hb.to s' self [] ws kin rfl (rz.length.symm.trans l2)) (fun a => hb.rel rfl l2 .nil rz) q2
end
end
end My

set_option Elab.async false
set_option linter.all false
set_option maxRecDepth 100000
set_option maxHeartbeats 4000000
namespace My
open PySem L2
def top (i : Nat) : Stmt := PySem.Challenge.pw_rankloop_k25_refusals_made_by_hand.main.body.getD i (.Pass ⟨0, 0, 0, 0⟩)
/-! ### the pen: what a law draws from -/
abbrev kC : Key := Sum.inr "cells"
abbrev kA : Key := Sum.inr "at"
abbrev kL : Key := Sum.inr "left"
def pen (l : Addr) (n L : Int) : List (Key × V) := [(kC, .ref l), (kA, .int n), (kL, .int L)]
theorem sCA : ¬ Str.ofString "cells" = Str.ofString "at" := by decide +kernel
theorem sCL : ¬ Str.ofString "cells" = Str.ofString "left" := by decide +kernel
theorem sAL : ¬ Str.ofString "at" = Str.ofString "left" := by decide +kernel
theorem sLA : ¬ Str.ofString "left" = Str.ofString "at" := by decide +kernel
theorem nCA : ¬ kC = kA := fun h => absurd (Sum.inr.inj h) (by decide +kernel)
theorem nCL : ¬ kC = kL := fun h => absurd (Sum.inr.inj h) (by decide +kernel)
theorem nAL : ¬ kA = kL := fun h => absurd (Sum.inr.inj h) (by decide +kernel)
theorem pen_c (l : Addr) (n L : Int) : valV (pen l n L) kC = some (.ref l) := valV_pos rfl
theorem pen_a (l : Addr) (n L : Int) : valV (pen l n L) kA = some (.int n) := (valV_neg nCA).trans (valV_pos rfl)
theorem pen_l (l : Addr) (n L : Int) : valV (pen l n L) kL = some (.int L) := (valV_neg nCL).trans ((valV_neg nAL).trans (valV_pos rfl))
theorem pen_putA (l : Addr) (n L m : Int) : putK (pen l n L) kA (.int m) = pen l m L := by
  simp [putK, pen, sCA, sLA]
theorem pen_putL (l : Addr) (n L m : Int) : putK (pen l n L) kL (.int m) = pen l n m := by
  simp [putK, pen, sCL, sAL]
theorem pen_len (l : Addr) (n L : Int) : (pen l n L).length < sizeLine := by
  show 3 < sizeLine
  decide
theorem pen_new (l : Addr) (n L : Int) : mergeK [] (pen l n L) = pen l n L := by
  have h1 : putK [] kC (.ref l) = [(kC, V.ref l)] := rfl
  have h2 : putK [(kC, V.ref l)] kA (.int n) = [(kC, V.ref l), (kA, V.int n)] := by simp [putK, sCA]
  have h3 : putK [(kC, V.ref l), (kA, V.int n)] kL (.int L) = pen l n L := by simp [putK, pen, sCL, sAL]
  show putK (putK (putK [] kC (.ref l)) kA (.int n)) kL (.int L) = _
  rw [h1, h2, h3]
/-- a pen stands at d, its cells at l -/
structure Pen (H : Hp) (d l : Addr) (ms : List Int) (n L : Int) : Prop where
  dc : H d = some (.dK (pen l n L))
  ls : H l = some (.lst (ms.map V.int))
  n0 : 0 ≤ n
  l0 : 0 ≤ L
theorem Pen.ne {H : Hp} {d l : Addr} {ms : List Int} {n L : Int} (p : Pen H d l ms n L) : l ≠ d := ne_of p.ls p.dc (by intro z; cases z)
theorem Pen.gC {H : Hp} {d l : Addr} {ms : List Int} {n L : Int} (p : Pen H d l ms n L) : DGet H d (.str "cells") (some (.ref l)) := by
  have h := DGet.k (k := kC) p.dc
  rw [pen_c] at h
  exact h
theorem Pen.gA {H : Hp} {d l : Addr} {ms : List Int} {n L : Int} (p : Pen H d l ms n L) : DGet H d (.str "at") (some (.int n)) := by
  have h := DGet.k (k := kA) p.dc
  rw [pen_a] at h
  exact h
theorem Pen.gL {H : Hp} {d l : Addr} {ms : List Int} {n L : Int} (p : Pen H d l ms n L) : DGet H d (.str "left") (some (.int L)) := by
  have h := DGet.k (k := kL) p.dc
  rw [pen_l] at h
  exact h
theorem Pen.pA {H : Hp} {d l : Addr} {ms : List Int} {n L : Int} (p : Pen H d l ms n L) (y : Int) : DPut H d (.str "at") (.int y) (L2.upd H d (.dK (pen l y L))) := by
  have h := DPut.k (k := kA) (v := .int y) p.dc (pen_len l n L)
  rw [pen_putA] at h
  exact h
theorem Pen.pL {H : Hp} {d l : Addr} {ms : List Int} {n L : Int} (p : Pen H d l ms n L) (y : Int) : DPut H d (.str "left") (.int y) (L2.upd H d (.dK (pen l n y))) := by
  have h := DPut.k (k := kL) (v := .int y) p.dc (pen_len l n L)
  rw [pen_putL] at h
  exact h
def spPen (K : PySem.W.Frag) : Sp := fun vs H Q _ => ∃ (a : Addr) (ns : List Int), vs = [.ref a] ∧ SqL K H a (ns.map V.int) ∧
  ∀ (d l : Addr) (ms : List Int) (H' : Hp), H d = none → H l = none → Same H H' → Pen H' d l ms 0 0 → Q (.ref d) H'
def spDraw : Sp := fun vs H Q _ => ∃ (d l : Addr) (ms : List Int) (n L m : Int), vs = [.ref d, .int m] ∧ Pen H d l ms n L ∧ n < 2 ^ 40 ∧ 0 < m ∧ m < 1073741824 ∧
  ∀ (r n' L' : Int) (H' : Hp), 0 ≤ r → r < m → n ≤ n' → n' ≤ n + 1 → Pen H' d l ms n' L' → (∀ c o, H c = some o → c ≠ d → H' c = some o) → Q (.int r) H'
theorem Pen.upd' {H : Hp} {d l : Addr} {ms : List Int} {n L n' L' : Int} (p : Pen H d l ms n L) (h1 : 0 ≤ n') (h2 : 0 ≤ L') : Pen (L2.upd H d (.dK (pen l n' L'))) d l ms n' L' :=
  ⟨upd_same, by rw [upd_ne p.ne]; exact p.ls, h1, h2⟩
theorem cut_ints (ns : List Int) (lo hi : Option Int) : ∃ ms : List Int, cutV (ns.map V.int) lo hi = ms.map V.int := by
  unfold cutV
  refine ⟨(ns.drop (HT.sIx (ns.map V.int).length 0 lo)).take (HT.sIx (ns.map V.int).length (ns.map V.int).length hi - HT.sIx (ns.map V.int).length 0 lo), ?_⟩
  rw [List.map_take, List.map_drop]
section
variable {P : Program} {w : World} {K : PySem.W.Frag} {mg : Str → Option Value} {base : Heap}
abbrev sPen : Stmt := top 12
abbrev sDraw : Stmt := top 13
theorem scPen : FnScope ["_law_script"] ["_law_script"] (defScope sPen) := ⟨rfl, rfl, rfl, by decide +kernel, rfl, by decide +kernel, by decide +kernel⟩
theorem ok_pen {f : Addr} {fd : FuncData} (F : Fun K "_law_pen" "_law_pen" sPen f fd) (mList : mg "list" = none) : FnOk P w K mg base CX0 1 f fd ["_law_script"] (spPen K) := by
  refine F.ok scPen (fun vs H Q E h => ?_) (fun cdv A outer s H vs Q E hr h => ?_)
  · obtain ⟨a, ns, rfl, _⟩ := h
    rfl
  · obtain ⟨a, ns, rfl, hS, k⟩ := h
    refine ⟨_, pss_one (ps_ret (pe_disp (pps_cons pe_str (pe_callTy call_list_of (by rfl) mList (by decide +kernel) (pa_cons (pe_slice sl_list (pv 0) po_none (po_some pe_int)) pa_nil))
      (pps_cons pe_str pe_int (pps_cons pe_str pe_int pps_nil))) (by rfl) (by rfl) (fun z => by cases z) (by decide))), ?_⟩
    intro d hd
    have s1 : Same H (upd H d (.dK [])) := fun b o e => by
      rw [upd_ne (ne_of_none e hd)]; exact e
    obtain ⟨ms, em⟩ := cut_ints ns none (some 63)
    refine ⟨_, rfl, 63, rfl, a, _, rfl, s1.seq hS, fun p hp => ⟨p, _, rfl, .inl (SqL.of upd_same), fun l hl => ?_⟩⟩
    have nlp : l ≠ p := fun z => by
      rw [z, upd_same] at hl
      cases hl
    have hl1 : upd H d (.dK []) l = none := by
      rw [upd_ne nlp] at hl; exact hl
    have nld : l ≠ d := fun z => by
      rw [z, upd_same] at hl1
      cases hl1
    have npd : p ≠ d := fun z => by
      rw [z, upd_same] at hp
      cases hp
    have hl0 : H l = none := by
      rw [upd_ne nld] at hl1; exact hl1
    have hp0 : H p = none := by
      rw [upd_ne npd] at hp; exact hp
    refine ⟨by rw [upd_ne (Ne.symm nld), upd_ne (Ne.symm npd), upd_same], pen l 0 0, rfl, by show 3 ≤ 15; decide, ?_⟩
    rw [pen_new]
    refine k d l ms _ hd hl0 (fun b o e => ?_) ⟨upd_same, ?_, Int.le_refl _, Int.le_refl _⟩
    · rw [upd_ne (ne_of_none e hd), upd_ne (ne_of_none e hl0), upd_ne (ne_of_none e hp0), upd_ne (ne_of_none e hd)]
      exact e
    · rw [upd_ne nld, upd_same]
      exact congrArg (fun z => some (HO.lst z)) em
theorem scDraw : FnScope ["_law_held", "_law_many", "_law_found", "_law_at", "_law_cell", "_law_number"] ["_law_held", "_law_many"] (defScope sDraw) := ⟨rfl, rfl, rfl, by decide +kernel, rfl, by decide +kernel, by decide +kernel⟩
theorem eq_nil (ms : List Int) : (!PyData.eqv (.list (ms.map PyData.int)) (.list [])) = !ms.isEmpty := by
  cases ms <;> simp [PyData.eqv, PyData.eqvAll]
theorem dp_ints {H : Hp} : ∀ ms : List Int, DpAll K H (ms.map V.int) (ms.map PyData.int)
  | [] => .nil
  | i :: r => .cons (.int i) (dp_ints r)
theorem shaped_ints (ms : List Int) : SeqAt.shaped (.list (ms.map PyData.int)) = true := by
  have h1 : ∀ ms : List Int, PyData.canLayAll0 (ms.map PyData.int) = true := by
    intro ms
    induction ms with
    | nil => rfl
    | cons a r ih => simp [PyData.canLayAll0, PyData.canLay0, ih]
  have h2 : ∀ ms : List Int, PyData.depthAll (ms.map PyData.int) ≤ 1 := by
    intro ms
    induction ms with
    | nil => simp [PyData.depthAll]
    | cons a r ih => simp [PyData.depthAll, PyData.depth]; omega
  unfold SeqAt.shaped
  have h3 := h2 ms
  simp [PyData.canLay0, PyData.depth, h1]
  omega
theorem ok_draw {f : Addr} {fd : FuncData} (F : Fun K "_law_draw" "_law_draw" sDraw f fd) (mLen : mg "len" = none) : FnOk P w K mg base CX0 1 f fd ["_law_held", "_law_many"] spDraw := by
  refine F.ok scDraw (fun vs H Q E h => ?_) (fun cdv A outer s H vs Q E hr h => ?_)
  · obtain ⟨d, l, ms, n, L, m, rfl, _⟩ := h
    rfl
  · obtain ⟨d, l, ms, n, L, m, rfl, p, hn, hm0, hm1, k⟩ := h
    have hu := hu_of hr
    have nd := scDraw.nd
    refine ⟨_, pss_cons (ps_if (pt_cmpR op_gt (pe_dget hu (pv 0) pe_str (fun _ _ => rfl)) pe_int (nomark _))
        (pss_cons (ps_set (i := 2) nd rfl (Or.inl rfl) (pe_op op_mod (pe_dget hu (pv 0) pe_str (fun _ _ => rfl)) (pv 1)))
        (pss_cons (ps_dput hu (pv 0) pe_str (pe_op op_fdiv (pe_dget hu (pv 0) pe_str (fun _ _ => rfl)) (pv 1)) rfl)
        (pss_one (ps_ret (pv 2))))) pss_nil)
      (pss_cons (ps_set (i := 3) nd rfl (Or.inl rfl) (pe_dget hu (pv 0) pe_str (fun _ _ => rfl)))
      (pss_cons (ps_dput hu (pv 0) pe_str (pe_op op_add (pv 3) pe_int) rfl)
      (pss_cons (ps_set (i := 4) nd rfl (Or.inl rfl) pe_int)
      (pss_cons (ps_if (pt_cmpR (op_neD hr.units) (pe_dget hu (pv 0) pe_str (fun _ _ => rfl)) (pe_lst pa_nil) (nomark _))
        (pss_one (ps_set (i := 4) nd rfl (Or.inl rfl) (pe_ix ix_list (pe_dget hu (pv 0) pe_str (fun _ _ => rfl)) (pe_op op_mod (pv 3) (pe_callB call_len_seq (by rfl) mLen PySem.boot_len (pa_cons (pe_dget hu (pv 0) pe_str (fun _ _ => rfl)) pa_nil))) (fun _ _ => rfl)))) pss_nil)
      (pss_cons (ps_if (PW.pt (pw_and (pt_cmpR op_lt (pv 3) (pe_callB call_len_seq (by rfl) mLen PySem.boot_len (pa_cons (pe_dget hu (pv 0) pe_str (fun _ _ => rfl)) pa_nil)) (nomark _))
          (pw_and1 (pt_cmpR op_ge (pv 4) (pe_op op_pow pe_int pe_int) (nomark _)))))
        (pss_cons (ps_dput hu (pv 0) pe_str (pe_op op_fdiv (pe_op op_sub (pv 4) (pe_op op_pow pe_int pe_int)) (pv 1)) rfl)
        (pss_one (ps_ret (pe_op op_mod (pe_op op_sub (pv 4) (pe_op op_pow pe_int pe_int)) (pv 1))))) pss_nil)
      (pss_cons (ps_set (i := 5) nd rfl (Or.inl rfl) (pe_op op_mod (pe_op op_add (pe_op op_add (pe_op op_add (pe_op op_mul (pe_op op_mod (pv 4) pe_int) pe_int) (pe_op op_mul (pe_op op_mul pe_int (pv 3)) (pv 3))) (pe_op op_mul pe_int (pv 3))) pe_int) pe_int))
      (pss_cons (ps_set (i := 5) nd rfl (Or.inl rfl) (pe_op op_mod (pe_op op_add (pe_op op_add (pe_op op_mul (pv 5) (pv 5)) (pe_op op_mul pe_int (pv 5))) pe_int) pe_int))
      (pss_one (ps_ret (pe_op op_mod (pe_op op_fdiv (pv 5) pe_int) (pv 1))))))))))), ?_⟩
    refine ⟨_, rfl, d, _, rfl, p.gL, _, _, rfl, rfl, _, rfl, ite2 (fun c => ?_) (fun c => ?_)⟩
    · refine ⟨_, rfl, d, _, rfl, p.gL, _, rfl, _, _, rfl, rfl, hm0, ?_⟩
      refine ⟨_, rfl, d, _, rfl, p.gL, _, rfl, _, _, rfl, rfl, ⟨hm0, hm1⟩, _, rfl, d, _, rfl, p.pL _, ?_⟩
      refine ⟨_, rfl, ?_⟩
      exact k _ n _ _ (Int.emod_nonneg _ (by omega)) (Int.emod_lt_of_pos _ hm0) (Int.le_refl _) (by omega) (p.upd' p.n0 (Int.ediv_nonneg p.l0 (by omega))) fun c o e nc => by
        rw [upd_ne nc]; exact e
    · refine ⟨_, rfl, d, _, rfl, p.gA, ?_⟩
      refine ⟨_, rfl, _, _, rfl, rfl, _, rfl, d, _, rfl, p.pA _, ?_⟩
      have p1 : Pen (upd H d (.dK (pen l (n + 1) L))) d l ms (n + 1) L := p.upd' (by have := p.n0; omega) p.l0
      have pw : ((10 : Int).natAbs < 2 ^ 64) := by decide
      refine ⟨_, rfl, d, _, rfl, p1.gC, Nat.zero_le _, fun q hq => ?_⟩
      have p2 : Pen (upd (upd H d (.dK (pen l (n + 1) L))) q (.lst [])) d l ms (n + 1) L :=
        ⟨by rw [upd_ne (ne_of_none p1.dc hq)]; exact p1.dc, by rw [upd_ne (ne_of_none p1.ls hq)]; exact p1.ls, p1.n0, p1.l0⟩
      have keep : ∀ c o, H c = some o → c ≠ d → (upd (upd H d (.dK (pen l (n + 1) L))) q (.lst [])) c = some o := fun c o e nc => by
        have e1 : (upd H d (.dK (pen l (n + 1) L))) c = some o := by rw [upd_ne nc]; exact e
        rw [upd_ne (ne_of_none e1 hq)]
        exact e1
      refine ⟨.list (ms.map PyData.int), .list [], .lst (SqL.of p2.ls) (dp_ints ms), .lst (SqL.of upd_same) .nil, shaped_ints ms, by decide, _, rfl, ite2 (fun c1 => ?_) (fun c1 => ?_)⟩
      · rw [eq_nil] at c1
        have hne : ms ≠ [] := fun z => by
          rw [z] at c1; cases c1
        have hlen : 0 < ms.length := List.length_pos_iff.mpr hne
        have hlen' : (0 : Int) < ((ms.map V.int).length : Int) := by rw [List.length_map]; omega
        have hlt : (n % ((ms.map V.int).length : Int)).toNat < ms.length := by
          have h1 := Int.emod_nonneg n (b := ((ms.map V.int).length : Int)) (by omega)
          have h2 := Int.emod_lt_of_pos n hlen'
          rw [List.length_map] at h1 h2 ⊢
          omega
        have hat : atI (ms.map V.int) (n % ((ms.map V.int).length : Int)) = some (V.int (ms[(n % ((ms.map V.int).length : Int)).toNat]'hlt)) := by
          have h1 := Int.emod_nonneg n (b := ((ms.map V.int).length : Int)) (by omega)
          have h2 : (ms.map V.int)[(n % ((ms.map V.int).length : Int)).toNat]? = some (V.int (ms[(n % ((ms.map V.int).length : Int)).toNat]'hlt)) := by
            rw [List.getElem?_map, List.getElem?_eq_getElem hlt]; rfl
          have h3 := atI_nat h2
          rw [Int.toNat_of_nonneg h1] at h3
          exact h3
        refine ⟨_, rfl, d, _, rfl, p2.gC, _, rfl, _, rfl, d, _, rfl, p2.gC, l, _, rfl, .inl (SqL.of p2.ls), _, _, rfl, rfl, hlen', l, _, _, _, rfl, rfl, SqL.of p2.ls, hat, ?_⟩
        refine ⟨_, rfl, _, rfl, d, _, rfl, p2.gC, l, _, rfl, .inl (SqL.of p2.ls), _, _, rfl, rfl, _, rfl, ite2 (fun c2 => ?_) (fun c2 => ?_)⟩
        · refine ⟨_, rfl, _, _, rfl, rfl, ⟨by decide, by decide, pw⟩, _, _, rfl, rfl, _, rfl, ite2 (fun c3 => ?_) (fun c3 => ?_)⟩
          · have hz := of_decide_eq_true c3
            refine ⟨_, rfl, _, _, rfl, rfl, ⟨by decide, by decide, pw⟩, _, _, rfl, rfl, _, rfl, _, _, rfl, rfl, ⟨hm0, hm1⟩, _, rfl, d, _, rfl, p2.pL _, ?_⟩
            refine ⟨_, rfl, _, _, rfl, rfl, ⟨by decide, by decide, pw⟩, _, _, rfl, rfl, _, rfl, _, _, rfl, rfl, hm0, ?_⟩
            exact k _ (n + 1) _ _ (Int.emod_nonneg _ (by omega)) (Int.emod_lt_of_pos _ hm0) (by omega) (Int.le_refl _) (p2.upd' p2.n0 (Int.ediv_nonneg (by omega) (by omega))) fun c o e nc => by
              rw [upd_ne nc]; exact keep c o e nc
          · skip
            refine ⟨_, rfl, _, _, rfl, rfl, (by show (0 : Int) < 2147483549; decide), _, _, rfl, rfl, .inr ⟨by decide, by decide⟩, _, rfl, _, _, rfl, rfl, .inl ⟨by decide, by decide⟩, _, rfl, _, _, rfl, rfl, .inr ⟨by have := p.n0; omega, by omega⟩, _, _, rfl, rfl, _, rfl, _, _, rfl, rfl, .inl ⟨by decide, by decide⟩, _, _, rfl, rfl, _, _, rfl, rfl, _, _, rfl, rfl, (by show (0 : Int) < 2147483647; decide), ?_⟩
            refine ⟨_, rfl, _, rfl, _, _, rfl, rfl, .inl ⟨Int.lt_of_lt_of_le (by decide) (Int.emod_nonneg _ (by decide)), Int.lt_trans (Int.emod_lt_of_pos _ (by decide)) (by decide)⟩, _, rfl, _, _, rfl, rfl, .inl ⟨by decide, by decide⟩, _, _, rfl, rfl, _, _, rfl, rfl, _, _, rfl, rfl, (by show (0 : Int) < 2147483629; decide), ?_⟩
            refine ⟨_, rfl, _, _, rfl, rfl, ⟨by decide, by decide⟩, _, rfl, _, _, rfl, rfl, hm0, ?_⟩
            exact k _ (n + 1) L _ (Int.emod_nonneg _ (by omega)) (Int.emod_lt_of_pos _ hm0) (by omega) (Int.le_refl _) p2 keep
        · skip
          refine ⟨_, rfl, _, _, rfl, rfl, (by show (0 : Int) < 2147483549; decide), _, _, rfl, rfl, .inr ⟨by decide, by decide⟩, _, rfl, _, _, rfl, rfl, .inl ⟨by decide, by decide⟩, _, rfl, _, _, rfl, rfl, .inr ⟨by have := p.n0; omega, by omega⟩, _, _, rfl, rfl, _, rfl, _, _, rfl, rfl, .inl ⟨by decide, by decide⟩, _, _, rfl, rfl, _, _, rfl, rfl, _, _, rfl, rfl, (by show (0 : Int) < 2147483647; decide), ?_⟩
          refine ⟨_, rfl, _, rfl, _, _, rfl, rfl, .inl ⟨Int.lt_of_lt_of_le (by decide) (Int.emod_nonneg _ (by decide)), Int.lt_trans (Int.emod_lt_of_pos _ (by decide)) (by decide)⟩, _, rfl, _, _, rfl, rfl, .inl ⟨by decide, by decide⟩, _, _, rfl, rfl, _, _, rfl, rfl, _, _, rfl, rfl, (by show (0 : Int) < 2147483629; decide), ?_⟩
          refine ⟨_, rfl, _, _, rfl, rfl, ⟨by decide, by decide⟩, _, rfl, _, _, rfl, rfl, hm0, ?_⟩
          exact k _ (n + 1) L _ (Int.emod_nonneg _ (by omega)) (Int.emod_lt_of_pos _ hm0) (by omega) (Int.le_refl _) p2 keep
      · skip
        refine ⟨_, rfl, _, rfl, d, _, rfl, p2.gC, l, _, rfl, .inl (SqL.of p2.ls), _, _, rfl, rfl, _, rfl, ite2 (fun c2 => ?_) (fun c2 => ?_)⟩
        · refine ⟨_, rfl, _, _, rfl, rfl, ⟨by decide, by decide, pw⟩, _, _, rfl, rfl, _, rfl, ite2 (fun c3 => ?_) (fun c3 => ?_)⟩
          · have hz := of_decide_eq_true c3
            refine ⟨_, rfl, _, _, rfl, rfl, ⟨by decide, by decide, pw⟩, _, _, rfl, rfl, _, rfl, _, _, rfl, rfl, ⟨hm0, hm1⟩, _, rfl, d, _, rfl, p2.pL _, ?_⟩
            refine ⟨_, rfl, _, _, rfl, rfl, ⟨by decide, by decide, pw⟩, _, _, rfl, rfl, _, rfl, _, _, rfl, rfl, hm0, ?_⟩
            exact k _ (n + 1) _ _ (Int.emod_nonneg _ (by omega)) (Int.emod_lt_of_pos _ hm0) (by omega) (Int.le_refl _) (p2.upd' p2.n0 (Int.ediv_nonneg (by omega) (by omega))) fun c o e nc => by
              rw [upd_ne nc]; exact keep c o e nc
          · skip
            refine ⟨_, rfl, _, _, rfl, rfl, (by show (0 : Int) < 2147483549; decide), _, _, rfl, rfl, .inr ⟨by decide, by decide⟩, _, rfl, _, _, rfl, rfl, .inl ⟨by decide, by decide⟩, _, rfl, _, _, rfl, rfl, .inr ⟨by have := p.n0; omega, by omega⟩, _, _, rfl, rfl, _, rfl, _, _, rfl, rfl, .inl ⟨by decide, by decide⟩, _, _, rfl, rfl, _, _, rfl, rfl, _, _, rfl, rfl, (by show (0 : Int) < 2147483647; decide), ?_⟩
            refine ⟨_, rfl, _, rfl, _, _, rfl, rfl, .inl ⟨Int.lt_of_lt_of_le (by decide) (Int.emod_nonneg _ (by decide)), Int.lt_trans (Int.emod_lt_of_pos _ (by decide)) (by decide)⟩, _, rfl, _, _, rfl, rfl, .inl ⟨by decide, by decide⟩, _, _, rfl, rfl, _, _, rfl, rfl, _, _, rfl, rfl, (by show (0 : Int) < 2147483629; decide), ?_⟩
            refine ⟨_, rfl, _, _, rfl, rfl, ⟨by decide, by decide⟩, _, rfl, _, _, rfl, rfl, hm0, ?_⟩
            exact k _ (n + 1) L _ (Int.emod_nonneg _ (by omega)) (Int.emod_lt_of_pos _ hm0) (by omega) (Int.le_refl _) p2 keep
        · skip
          refine ⟨_, rfl, _, _, rfl, rfl, (by show (0 : Int) < 2147483549; decide), _, _, rfl, rfl, .inr ⟨by decide, by decide⟩, _, rfl, _, _, rfl, rfl, .inl ⟨by decide, by decide⟩, _, rfl, _, _, rfl, rfl, .inr ⟨by have := p.n0; omega, by omega⟩, _, _, rfl, rfl, _, rfl, _, _, rfl, rfl, .inl ⟨by decide, by decide⟩, _, _, rfl, rfl, _, _, rfl, rfl, _, _, rfl, rfl, (by show (0 : Int) < 2147483647; decide), ?_⟩
          refine ⟨_, rfl, _, rfl, _, _, rfl, rfl, .inl ⟨Int.lt_of_lt_of_le (by decide) (Int.emod_nonneg _ (by decide)), Int.lt_trans (Int.emod_lt_of_pos _ (by decide)) (by decide)⟩, _, rfl, _, _, rfl, rfl, .inl ⟨by decide, by decide⟩, _, _, rfl, rfl, _, _, rfl, rfl, _, _, rfl, rfl, (by show (0 : Int) < 2147483629; decide), ?_⟩
          refine ⟨_, rfl, _, _, rfl, rfl, ⟨by decide, by decide⟩, _, rfl, _, _, rfl, rfl, hm0, ?_⟩
          exact k _ (n + 1) L _ (Int.emod_nonneg _ (by omega)) (Int.emod_lt_of_pos _ hm0) (by omega) (Int.le_refl _) p2 keep
end
end My

set_option Elab.async false
set_option linter.all false
set_option maxRecDepth 100000
set_option maxHeartbeats 4000000
namespace My
open PySem L2
/-- what is known of a built-in error class and of its __init__, whatever the program -/
structure BT (T initId : String) : Prop where
  ini : InitF T initId
  boot : bootBuiltins (Str.ofString T) = some (.type T)
  ty : typeOf (.type T) = pure (.type "type")
  stub : Manifest.isStub T = false
  nn : Str.ofString T ≠ "__name__"
  nd : (Str.ofString T == ("__debug__" : Str)) = false
  hh : PySem.W.handedIn (.builtin initId) = true

theorem btValueError : BT "ValueError" "ValueError.__init__" := ⟨InitF.of PySem.F.excCall_ValueError, by kernel_rfl, by kernel_rfl, by decide +kernel, by decide +kernel, by decide +kernel, by decide +kernel⟩
theorem btKeyError : BT "KeyError" "KeyError.__init__" := ⟨initKey, by kernel_rfl, by kernel_rfl, by decide +kernel, by decide +kernel, by decide +kernel, by decide +kernel⟩
theorem btIndexError : BT "IndexError" "IndexError.__init__" := ⟨InitF.of PySem.F.excCall_IndexError, by kernel_rfl, by kernel_rfl, by decide +kernel, by decide +kernel, by decide +kernel, by decide +kernel⟩
theorem btRuntimeError : BT "RuntimeError" "RuntimeError.__init__" := ⟨InitF.of PySem.F.excCall_RuntimeError, by kernel_rfl, by kernel_rfl, by decide +kernel, by decide +kernel, by decide +kernel, by decide +kernel⟩
theorem btLookupError : BT "LookupError" "LookupError.__init__" := ⟨InitF.of PySem.F.excCall_LookupError, by kernel_rfl, by kernel_rfl, by decide +kernel, by decide +kernel, by decide +kernel, by decide +kernel⟩
/-- __init__ of a class with one field -/
def spI1 (C : Addr) (f : Str) : Sp := fun vs H Q _ => ∃ (a : Addr) (v : V), vs = [.ref a, v] ∧ H a = some (exo a C none) ∧
  ∀ dx, H dx = none → dx ≠ a → Q .non (upd (upd H dx (exd dx [(f, v)])) a (exo a C (some dx)))
/-- Busy's -/
def spI0 (C : Addr) : Sp := fun vs H Q _ => ∃ a : Addr, vs = [.ref a] ∧ H a = some (exo a C none) ∧ Q .non H
/-- Undone's -/
def spI2 (C : Addr) (f g : Str) : Sp := fun vs H Q _ => ∃ (a : Addr) (v u : V), vs = [.ref a, v, u] ∧ H a = some (exo a C none) ∧
  ∀ dx, H dx = none → dx ≠ a → Q .non (upd (upd (upd H dx (exd dx [(f, v)])) a (exo a C (some dx))) dx (exd dx [(g, u), (f, v)]))
section
variable {P : Program} {w : World} {K : PySem.W.Frag} {mg : Str → Option Value} {base : Heap}

abbrev sI0 : Stmt := inClass (top 1) 0
theorem scI0 : FnScope ["self", "row"] ["self", "row"] (defScope sI0) := ⟨rfl, rfl, rfl, by decide +kernel, rfl, by decide +kernel, by decide +kernel⟩
theorem ok_i0 {f C : Addr} {fd : FuncData} (F : Fun K "__init__" "NoText.__init__" sI0 f fd) (x : XC K C "ValueError") (mT : mg "ValueError" = none) (vV : PySem.W.findCls K (.type "ValueError") (.type "type") "__init__" = some (.val (.builtin "ValueError.__init__"))) (nf : PySem.W.findIn K (.ref C) "row" = some none) :
    FnOk P w K mg base CX0 1 f fd ["self", "row"] (spI1 C "row") := by
  refine F.ok scI0 (fun vs H Q E h => ?_) (fun cdv A outer s H vs Q E hr h => ?_)
  · obtain ⟨a, v, rfl, _⟩ := h
    rfl
  · obtain ⟨a, v, rfl, ha, k⟩ := h
    refine ⟨_, pss_cons (ps_expr (pe_binit btValueError.ini rfl (by rfl) mT btValueError.boot btValueError.ty btValueError.stub btValueError.nn btValueError.nd btValueError.hh vV (pa_cons (pv 0) (pa_cons pe_str pa_nil)))) (pss_one (ps_xst (T := "ValueError") (pv 0) (pv 1))), ?_⟩
    exact ⟨_, rfl, a, C, [_], rfl, (by show 1 ≤ 1000; decide), x, ha, _, rfl, _, rfl, a, C, rfl, x, nf, .inl ⟨ha, fun dx n ne => k dx n ne⟩⟩
abbrev sI1 : Stmt := inClass (top 2) 0
theorem scI1 : FnScope ["self", "row"] ["self", "row"] (defScope sI1) := ⟨rfl, rfl, rfl, by decide +kernel, rfl, by decide +kernel, by decide +kernel⟩
theorem ok_i1 {f C : Addr} {fd : FuncData} (F : Fun K "__init__" "NoRow.__init__" sI1 f fd) (x : XC K C "ValueError") (mT : mg "ValueError" = none) (vV : PySem.W.findCls K (.type "ValueError") (.type "type") "__init__" = some (.val (.builtin "ValueError.__init__"))) (nf : PySem.W.findIn K (.ref C) "row" = some none) :
    FnOk P w K mg base CX0 1 f fd ["self", "row"] (spI1 C "row") := by
  refine F.ok scI1 (fun vs H Q E h => ?_) (fun cdv A outer s H vs Q E hr h => ?_)
  · obtain ⟨a, v, rfl, _⟩ := h
    rfl
  · obtain ⟨a, v, rfl, ha, k⟩ := h
    refine ⟨_, pss_cons (ps_expr (pe_binit btValueError.ini rfl (by rfl) mT btValueError.boot btValueError.ty btValueError.stub btValueError.nn btValueError.nd btValueError.hh vV (pa_cons (pv 0) (pa_cons pe_str pa_nil)))) (pss_one (ps_xst (T := "ValueError") (pv 0) (pv 1))), ?_⟩
    exact ⟨_, rfl, a, C, [_], rfl, (by show 1 ≤ 1000; decide), x, ha, _, rfl, _, rfl, a, C, rfl, x, nf, .inl ⟨ha, fun dx n ne => k dx n ne⟩⟩
abbrev sI2 : Stmt := inClass (top 3) 0
theorem scI2 : FnScope ["self", "thing"] ["self", "thing"] (defScope sI2) := ⟨rfl, rfl, rfl, by decide +kernel, rfl, by decide +kernel, by decide +kernel⟩
theorem ok_i2 {f C : Addr} {fd : FuncData} (F : Fun K "__init__" "NoScript.__init__" sI2 f fd) (x : XC K C "ValueError") (mT : mg "ValueError" = none) (vV : PySem.W.findCls K (.type "ValueError") (.type "type") "__init__" = some (.val (.builtin "ValueError.__init__"))) (nf : PySem.W.findIn K (.ref C) "thing" = some none) :
    FnOk P w K mg base CX0 1 f fd ["self", "thing"] (spI1 C "thing") := by
  refine F.ok scI2 (fun vs H Q E h => ?_) (fun cdv A outer s H vs Q E hr h => ?_)
  · obtain ⟨a, v, rfl, _⟩ := h
    rfl
  · obtain ⟨a, v, rfl, ha, k⟩ := h
    refine ⟨_, pss_cons (ps_expr (pe_binit btValueError.ini rfl (by rfl) mT btValueError.boot btValueError.ty btValueError.stub btValueError.nn btValueError.nd btValueError.hh vV (pa_cons (pv 0) (pa_cons pe_str pa_nil)))) (pss_one (ps_xst (T := "ValueError") (pv 0) (pv 1))), ?_⟩
    exact ⟨_, rfl, a, C, [_], rfl, (by show 1 ≤ 1000; decide), x, ha, _, rfl, _, rfl, a, C, rfl, x, nf, .inl ⟨ha, fun dx n ne => k dx n ne⟩⟩
abbrev sI3 : Stmt := inClass (top 4) 0
theorem scI3 : FnScope ["self", "most"] ["self", "most"] (defScope sI3) := ⟨rfl, rfl, rfl, by decide +kernel, rfl, by decide +kernel, by decide +kernel⟩
theorem ok_i3 {f C : Addr} {fd : FuncData} (F : Fun K "__init__" "TooMany.__init__" sI3 f fd) (x : XC K C "ValueError") (mT : mg "ValueError" = none) (vV : PySem.W.findCls K (.type "ValueError") (.type "type") "__init__" = some (.val (.builtin "ValueError.__init__"))) (nf : PySem.W.findIn K (.ref C) "most" = some none) :
    FnOk P w K mg base CX0 1 f fd ["self", "most"] (spI1 C "most") := by
  refine F.ok scI3 (fun vs H Q E h => ?_) (fun cdv A outer s H vs Q E hr h => ?_)
  · obtain ⟨a, v, rfl, _⟩ := h
    rfl
  · obtain ⟨a, v, rfl, ha, k⟩ := h
    refine ⟨_, pss_cons (ps_expr (pe_binit btValueError.ini rfl (by rfl) mT btValueError.boot btValueError.ty btValueError.stub btValueError.nn btValueError.nd btValueError.hh vV (pa_cons (pv 0) (pa_cons pe_str pa_nil)))) (pss_one (ps_xst (T := "ValueError") (pv 0) (pv 1))), ?_⟩
    exact ⟨_, rfl, a, C, [_], rfl, (by show 1 ≤ 1000; decide), x, ha, _, rfl, _, rfl, a, C, rfl, x, nf, .inl ⟨ha, fun dx n ne => k dx n ne⟩⟩
abbrev sI4 : Stmt := inClass (top 5) 0
theorem scI4 : FnScope ["self", "name"] ["self", "name"] (defScope sI4) := ⟨rfl, rfl, rfl, by decide +kernel, rfl, by decide +kernel, by decide +kernel⟩
theorem ok_i4 {f C : Addr} {fd : FuncData} (F : Fun K "__init__" "NoLoop.__init__" sI4 f fd) (x : XC K C "KeyError") (mT : mg "KeyError" = none) (vV : PySem.W.findCls K (.type "KeyError") (.type "type") "__init__" = some (.val (.builtin "KeyError.__init__"))) (nf : PySem.W.findIn K (.ref C) "name" = some none) :
    FnOk P w K mg base CX0 1 f fd ["self", "name"] (spI1 C "name") := by
  refine F.ok scI4 (fun vs H Q E h => ?_) (fun cdv A outer s H vs Q E hr h => ?_)
  · obtain ⟨a, v, rfl, _⟩ := h
    rfl
  · obtain ⟨a, v, rfl, ha, k⟩ := h
    refine ⟨_, pss_cons (ps_expr (pe_binit btKeyError.ini rfl (by rfl) mT btKeyError.boot btKeyError.ty btKeyError.stub btKeyError.nn btKeyError.nd btKeyError.hh vV (pa_cons (pv 0) (pa_cons pe_str pa_nil)))) (pss_one (ps_xst (T := "KeyError") (pv 0) (pv 1))), ?_⟩
    exact ⟨_, rfl, a, C, [_], rfl, (by show 1 ≤ 1000; decide), x, ha, _, rfl, _, rfl, a, C, rfl, x, nf, .inl ⟨ha, fun dx n ne => k dx n ne⟩⟩
abbrev sI5 : Stmt := inClass (top 6) 0
theorem scI5 : FnScope ["self", "name"] ["self", "name"] (defScope sI5) := ⟨rfl, rfl, rfl, by decide +kernel, rfl, by decide +kernel, by decide +kernel⟩
theorem ok_i5 {f C : Addr} {fd : FuncData} (F : Fun K "__init__" "NoPromise.__init__" sI5 f fd) (x : XC K C "KeyError") (mT : mg "KeyError" = none) (vV : PySem.W.findCls K (.type "KeyError") (.type "type") "__init__" = some (.val (.builtin "KeyError.__init__"))) (nf : PySem.W.findIn K (.ref C) "name" = some none) :
    FnOk P w K mg base CX0 1 f fd ["self", "name"] (spI1 C "name") := by
  refine F.ok scI5 (fun vs H Q E h => ?_) (fun cdv A outer s H vs Q E hr h => ?_)
  · obtain ⟨a, v, rfl, _⟩ := h
    rfl
  · obtain ⟨a, v, rfl, ha, k⟩ := h
    refine ⟨_, pss_cons (ps_expr (pe_binit btKeyError.ini rfl (by rfl) mT btKeyError.boot btKeyError.ty btKeyError.stub btKeyError.nn btKeyError.nd btKeyError.hh vV (pa_cons (pv 0) (pa_cons pe_str pa_nil)))) (pss_one (ps_xst (T := "KeyError") (pv 0) (pv 1))), ?_⟩
    exact ⟨_, rfl, a, C, [_], rfl, (by show 1 ≤ 1000; decide), x, ha, _, rfl, _, rfl, a, C, rfl, x, nf, .inl ⟨ha, fun dx n ne => k dx n ne⟩⟩
abbrev sI6 : Stmt := inClass (top 7) 0
theorem scI6 : FnScope ["self", "name"] ["self", "name"] (defScope sI6) := ⟨rfl, rfl, rfl, by decide +kernel, rfl, by decide +kernel, by decide +kernel⟩
theorem ok_i6 {f C : Addr} {fd : FuncData} (F : Fun K "__init__" "NoMark.__init__" sI6 f fd) (x : XC K C "KeyError") (mT : mg "KeyError" = none) (vV : PySem.W.findCls K (.type "KeyError") (.type "type") "__init__" = some (.val (.builtin "KeyError.__init__"))) (nf : PySem.W.findIn K (.ref C) "name" = some none) :
    FnOk P w K mg base CX0 1 f fd ["self", "name"] (spI1 C "name") := by
  refine F.ok scI6 (fun vs H Q E h => ?_) (fun cdv A outer s H vs Q E hr h => ?_)
  · obtain ⟨a, v, rfl, _⟩ := h
    rfl
  · obtain ⟨a, v, rfl, ha, k⟩ := h
    refine ⟨_, pss_cons (ps_expr (pe_binit btKeyError.ini rfl (by rfl) mT btKeyError.boot btKeyError.ty btKeyError.stub btKeyError.nn btKeyError.nd btKeyError.hh vV (pa_cons (pv 0) (pa_cons pe_str pa_nil)))) (pss_one (ps_xst (T := "KeyError") (pv 0) (pv 1))), ?_⟩
    exact ⟨_, rfl, a, C, [_], rfl, (by show 1 ≤ 1000; decide), x, ha, _, rfl, _, rfl, a, C, rfl, x, nf, .inl ⟨ha, fun dx n ne => k dx n ne⟩⟩
abbrev sI7 : Stmt := inClass (top 8) 0
theorem scI7 : FnScope ["self", "rank"] ["self", "rank"] (defScope sI7) := ⟨rfl, rfl, rfl, by decide +kernel, rfl, by decide +kernel, by decide +kernel⟩
theorem ok_i7 {f C : Addr} {fd : FuncData} (F : Fun K "__init__" "NoRank.__init__" sI7 f fd) (x : XC K C "IndexError") (mT : mg "IndexError" = none) (vV : PySem.W.findCls K (.type "IndexError") (.type "type") "__init__" = some (.val (.builtin "IndexError.__init__"))) (nf : PySem.W.findIn K (.ref C) "rank" = some none) :
    FnOk P w K mg base CX0 1 f fd ["self", "rank"] (spI1 C "rank") := by
  refine F.ok scI7 (fun vs H Q E h => ?_) (fun cdv A outer s H vs Q E hr h => ?_)
  · obtain ⟨a, v, rfl, _⟩ := h
    rfl
  · obtain ⟨a, v, rfl, ha, k⟩ := h
    refine ⟨_, pss_cons (ps_expr (pe_binit btIndexError.ini rfl (by rfl) mT btIndexError.boot btIndexError.ty btIndexError.stub btIndexError.nn btIndexError.nd btIndexError.hh vV (pa_cons (pv 0) (pa_cons pe_str pa_nil)))) (pss_one (ps_xst (T := "IndexError") (pv 0) (pv 1))), ?_⟩
    exact ⟨_, rfl, a, C, [_], rfl, (by show 1 ≤ 1000; decide), x, ha, _, rfl, _, rfl, a, C, rfl, x, nf, .inl ⟨ha, fun dx n ne => k dx n ne⟩⟩
abbrev sI8 : Stmt := inClass (top 9) 0
theorem scI8 : FnScope ["self"] ["self"] (defScope sI8) := ⟨rfl, rfl, rfl, by decide +kernel, rfl, by decide +kernel, by decide +kernel⟩
theorem ok_i8 {f C : Addr} {fd : FuncData} (F : Fun K "__init__" "Busy.__init__" sI8 f fd) (x : XC K C "RuntimeError") (mT : mg "RuntimeError" = none) (vV : PySem.W.findCls K (.type "RuntimeError") (.type "type") "__init__" = some (.val (.builtin "RuntimeError.__init__"))) :
    FnOk P w K mg base CX0 1 f fd ["self"] (spI0 C) := by
  refine F.ok scI8 (fun vs H Q E h => ?_) (fun cdv A outer s H vs Q E hr h => ?_)
  · obtain ⟨a, rfl, _⟩ := h
    rfl
  · obtain ⟨a, rfl, ha, k⟩ := h
    refine ⟨_, pss_one (ps_expr (pe_binit btRuntimeError.ini rfl (by rfl) mT btRuntimeError.boot btRuntimeError.ty btRuntimeError.stub btRuntimeError.nn btRuntimeError.nd btRuntimeError.hh vV (pa_cons (pv 0) (pa_cons pe_str pa_nil)))), ?_⟩
    exact ⟨_, rfl, a, C, [_], rfl, (by show 1 ≤ 1000; decide), x, ha, k⟩
abbrev sI9 : Stmt := inClass (top 10) 0
theorem scI9 : FnScope ["self", "row", "why"] ["self", "row", "why"] (defScope sI9) := ⟨rfl, rfl, rfl, by decide +kernel, rfl, by decide +kernel, by decide +kernel⟩
theorem ok_i9 {f C : Addr} {fd : FuncData} (F : Fun K "__init__" "Undone.__init__" sI9 f fd) (x : XC K C "LookupError") (mT : mg "LookupError" = none) (vV : PySem.W.findCls K (.type "LookupError") (.type "type") "__init__" = some (.val (.builtin "LookupError.__init__"))) (nf : PySem.W.findIn K (.ref C) "row" = some none) (ng : PySem.W.findIn K (.ref C) "why" = some none) :
    FnOk P w K mg base CX0 1 f fd ["self", "row", "why"] (spI2 C "row" "why") := by
  refine F.ok scI9 (fun vs H Q E h => ?_) (fun cdv A outer s H vs Q E hr h => ?_)
  · obtain ⟨a, v, u, rfl, _⟩ := h
    rfl
  · obtain ⟨a, v, u, rfl, ha, k⟩ := h
    refine ⟨_, pss_cons (ps_expr (pe_binit btLookupError.ini rfl (by rfl) mT btLookupError.boot btLookupError.ty btLookupError.stub btLookupError.nn btLookupError.nd btLookupError.hh vV (pa_cons (pv 0) (pa_cons pe_str pa_nil)))) (pss_cons (ps_xst (T := "LookupError") (pv 0) (pv 1)) (pss_one (ps_xst (T := "LookupError") (pv 0) (pv 2)))), ?_⟩
    refine ⟨_, rfl, a, C, [_], rfl, (by show 1 ≤ 1000; decide), x, ha, _, rfl, _, rfl, a, C, rfl, x, nf, .inl ⟨ha, fun dx n ne => ?_⟩⟩
    exact ⟨_, rfl, _, rfl, a, C, rfl, x, ng, .inr ⟨dx, _, upd_same, by rw [upd_ne ne, upd_same], by show 1 ≤ 900; decide, k dx n ne⟩⟩
/-! ### repr -/
/-- the text of a plain value by repr -/
inductive Rp : V → Str → Prop
  | str (x : Str) (h : (reprText x).length ≤ sizeLine) : Rp (.str x) (reprText x)
  | int (i : Int) (h : i.natAbs.log2 < 1920) : Rp (.int i) (toString i)
  | non : Rp .non "None"
theorem call_rp {X : Cx} : CallR X (.builtin "repr") (fun xs H Q => ∃ v z, xs = [v] ∧ Rp v z ∧ Q (.str z) H) := by
  intro pins s σ H xs us Q I r h
  obtain ⟨v, z, rfl, hr, q⟩ := h
  obtain ⟨u, rfl, ru⟩ := vals1 r
  cases hr with
  | str x hz =>
    obtain ⟨t, rfl⟩ := ru
    exact PySem.P.repr_of_str ⟨.str _, H, I.tok _, ⟨_, rfl⟩, q⟩ hz
  | int i hz =>
    obtain ⟨t, rfl⟩ := ru
    exact PySem.P.repr_of_int hz ⟨.str _, H, I.tok _, ⟨_, rfl⟩, q⟩
  | non =>
    cases (show u = Value.none from ru)
    exact PySem.P.repr_of_none ⟨.str _, H, I.tok _, ⟨_, rfl⟩, q⟩
end
end My

set_option Elab.async false
set_option linter.all false
set_option maxRecDepth 100000
set_option maxHeartbeats 4000000
namespace My
open PySem L2
/-! ### the ten classes -/
def bT : Nat → String
  | 0 => "ValueError" | 1 => "ValueError" | 2 => "ValueError" | 3 => "ValueError" | 4 => "KeyError" | 5 => "KeyError" | 6 => "KeyError" | 7 => "IndexError" | 8 => "RuntimeError" | _ => "LookupError"
def nmS : Nat → Str
  | 0 => "NoText" | 1 => "NoRow" | 2 => "NoScript" | 3 => "TooMany" | 4 => "NoLoop" | 5 => "NoPromise" | 6 => "NoMark" | 7 => "NoRank" | 8 => "Busy" | _ => "Undone"
def bN : Nat → String
  | 0 => "ValueError" | 1 => "KeyError" | 2 => "IndexError" | 3 => "LookupError" | 4 => "RuntimeError" | 5 => "ArithmeticError" | _ => "TypeError"
def fld : Nat → Str
  | 0 => "row" | 1 => "row" | 2 => "thing" | 3 => "most" | 4 => "name" | 5 => "name" | 6 => "name" | 7 => "rank" | _ => "row"
def ownB : Nat → List Bool
  | 0 => [true, false, false, false, false, false, false] | 1 => [true, false, false, false, false, false, false] | 2 => [true, false, false, false, false, false, false] | 3 => [true, false, false, false, false, false, false]
  | 4 => [false, true, false, true, false, false, false] | 5 => [false, true, false, true, false, false, false] | 6 => [false, true, false, true, false, false, false] | 7 => [false, false, true, true, false, false, false]
  | 8 => [false, false, false, false, true, false, false] | _ => [false, false, false, true, false, false, false]
def own (i k : Nat) : Bool := (ownB i).getD k false
structure CT (K : PySem.W.Frag) (mg : Str → Option Value) (CS : Nat → Addr) : Prop where
  xc : ∀ i, i < 10 → XC K (CS i) (bT i)
  mgC : ∀ i, i < 10 → mg (nmS i) = some (.ref (CS i))
  nf : ∀ i, i < 10 → ∀ f ∈ (["row", "thing", "most", "name", "rank", "why"] : List Str), PySem.W.findIn K (.ref (CS i)) f = some none
  kit : ∀ i j, i < 10 → j < 10 → PySem.W.kitOne K (.ref (CS i)) (.ref (CS j)) = some (decide (i = j))
  kitB : ∀ i k, i < 10 → k < 7 → PySem.W.kitOne K (.ref (CS i)) (.type (bN k)) = some (own i k)
  isi : mg "isinstance" = none
  bn : ∀ k, k < 7 → mg (Str.ofString (bN k)) = none
abbrev gP : Value → List Value → List Value → List Value := fun self us _ => self :: us
abbrev gPV : V → List V → List V → List V := fun self us _ => self :: us
abbrev gK : Value → List Value → List Value → List Value := fun self _ ws => self :: ws
abbrev gKV : V → List V → List V → List V := fun self _ ws => self :: ws
/-- how a class is called, by place and by name -/
structure Mkr (P : Program) (w : World) (K : PySem.W.Frag) (mg : Str → Option Value) (base : Heap) (C : Addr) (ps : List Str) (sp : Sp) : Prop where
  ex : ∃ fI fd, PySem.W.findIn K (.ref C) "__init__" = some (some (.ref fI)) ∧ PySem.W.typeIn K (.ref fI) = some (.type "function") ∧ FnOk P w K mg base CX0 1 fI fd ("self" :: ps) sp ∧
    XB K fd ("self" :: ps) ps.length [] gP gPV ∧ XB K fd ("self" :: ps) 0 ps gK gKV
theorem iteN {c A B : Prop} [Decidable c] (hc : ¬ c) (h : B) : if decide c = true then A else B := by
  rw [decide_eq_false hc]
  exact iteF h
theorem iteY {c A B : Prop} [Decidable c] (hc : c) (h : A) : if decide c = true then A else B := by
  rw [decide_eq_true hc]
  exact iteT h
theorem Same.new {H H' : Hp} {p : Addr} {o : HO} (s : Same H H') (h : H' p = none) : Same H (upd H' p o) := fun b u e => by
  have e' := s b u e
  rw [upd_ne (ne_of_none e' h)]
  exact e'
theorem XAt.same {H H' : Hp} {a C : Addr} {fs : List (Str × V)} (s : Same H H') (x : XAt H a C fs) : XAt H' a C fs := by
  rcases x with ⟨e, h⟩ | ⟨dx, h1, h2⟩
  · exact .inl ⟨e, s _ _ h⟩
  · exact .inr ⟨dx, s _ _ h1, s _ _ h2⟩
theorem made1 {H : Hp} {a dx C : Addr} {f : Str} {v : V} (ha : H a = none) (n : (upd H a (exo a C none)) dx = none) (ne : dx ≠ a) :
    Same H (upd (upd (upd H a (exo a C none)) dx (exd dx [(f, v)])) a (exo a C (some dx))) ∧ XAt (upd (upd (upd H a (exo a C none)) dx (exd dx [(f, v)])) a (exo a C (some dx))) a C [(f, v)] := by
  have hd : H dx = none := by
    rw [upd_ne ne] at n; exact n
  refine ⟨fun b o e => ?_, .inr ⟨dx, upd_same, by rw [upd_ne ne, upd_same]⟩⟩
  rw [upd_ne (ne_of_none e ha), upd_ne (ne_of_none e hd), upd_ne (ne_of_none e ha)]
  exact e
theorem made2 {H : Hp} {a dx C : Addr} {f g : Str} {v u : V} (ha : H a = none) (n : (upd H a (exo a C none)) dx = none) (ne : dx ≠ a) :
    Same H (upd (upd (upd (upd H a (exo a C none)) dx (exd dx [(f, v)])) a (exo a C (some dx))) dx (exd dx [(g, u), (f, v)])) ∧ XAt (upd (upd (upd (upd H a (exo a C none)) dx (exd dx [(f, v)])) a (exo a C (some dx))) dx (exd dx [(g, u), (f, v)])) a C [(g, u), (f, v)] := by
  have hd : H dx = none := by
    rw [upd_ne ne] at n; exact n
  refine ⟨fun b o e => ?_, .inr ⟨dx, by rw [upd_ne (Ne.symm ne), upd_same], upd_same⟩⟩
  rw [upd_ne (ne_of_none e hd), upd_ne (ne_of_none e ha), upd_ne (ne_of_none e hd), upd_ne (ne_of_none e ha)]
  exact e
/-- what stands at a behind the making: class i, made of v -/
def MadeAt (CS : Nat → Addr) (H : Hp) (a : Addr) (i : Nat) (v : V) : Prop :=
  (i < 8 ∧ XAt H a (CS i) [(fld i, v)]) ∨ (i = 8 ∧ XAt H a (CS 8) []) ∨ (i = 9 ∧ ∃ m, XAt H a (CS 9) [("why", .ref m), ("row", v)] ∧ XAt H m (CS 6) [("name", .str "m")])
def spMade (CS : Nat → Addr) : Sp := fun vs H Q _ => ∃ (i : Nat) (v : V) (b : Bool), vs = [.int i, v, .bl b] ∧ i < 10 ∧ ∀ (a : Addr) (H' : Hp), H a = none → Same H H' → MadeAt CS H' a i v → Q (.ref a) H'
section
variable {P : Program} {w : World} {K : PySem.W.Frag} {mg : Str → Option Value} {base : Heap} {CS : Nat → Addr}
abbrev sMade : Stmt := top 15
theorem scMade : FnScope ["_law_number", "_law_it", "_law_by_name"] ["_law_number", "_law_it", "_law_by_name"] (defScope sMade) := ⟨rfl, rfl, rfl, by decide +kernel, rfl, by decide +kernel, by decide +kernel⟩
theorem ok_made {f : Addr} {fd : FuncData} (F : Fun K "_law_made" "_law_made" sMade f fd) (T : CT K mg CS)
    (I0 : Mkr P w K mg base (CS 0) ["row"] (spI1 (CS 0) "row"))
    (I1 : Mkr P w K mg base (CS 1) ["row"] (spI1 (CS 1) "row"))
    (I2 : Mkr P w K mg base (CS 2) ["thing"] (spI1 (CS 2) "thing"))
    (I3 : Mkr P w K mg base (CS 3) ["most"] (spI1 (CS 3) "most"))
    (I4 : Mkr P w K mg base (CS 4) ["name"] (spI1 (CS 4) "name"))
    (I5 : Mkr P w K mg base (CS 5) ["name"] (spI1 (CS 5) "name"))
    (I6 : Mkr P w K mg base (CS 6) ["name"] (spI1 (CS 6) "name"))
    (I7 : Mkr P w K mg base (CS 7) ["rank"] (spI1 (CS 7) "rank"))
    (I8 : Mkr P w K mg base (CS 8) [] (spI0 (CS 8)))
    (I9 : Mkr P w K mg base (CS 9) ["row", "why"] (spI2 (CS 9) "row" "why")) :
    FnOk P w K mg base CX0 3 f fd ["_law_number", "_law_it", "_law_by_name"] (spMade CS) := by
  refine F.ok scMade (fun vs H Q E h => ?_) (fun cdv A outer s H vs Q E hr h => ?_)
  · obtain ⟨i, v, b, rfl, _⟩ := h
    rfl
  · obtain ⟨i, v, b, rfl, hi, k⟩ := h
    obtain ⟨f0, d0, a0, t0, G0, p0, q0⟩ := I0.ex
    have x0 := T.xc 0 (by decide)
    have m0 := T.mgC 0 (by decide)
    obtain ⟨f1, d1, a1, t1, G1, p1, q1⟩ := I1.ex
    have x1 := T.xc 1 (by decide)
    have m1 := T.mgC 1 (by decide)
    obtain ⟨f2, d2, a2, t2, G2, p2, q2⟩ := I2.ex
    have x2 := T.xc 2 (by decide)
    have m2 := T.mgC 2 (by decide)
    obtain ⟨f3, d3, a3, t3, G3, p3, q3⟩ := I3.ex
    have x3 := T.xc 3 (by decide)
    have m3 := T.mgC 3 (by decide)
    obtain ⟨f4, d4, a4, t4, G4, p4, q4⟩ := I4.ex
    have x4 := T.xc 4 (by decide)
    have m4 := T.mgC 4 (by decide)
    obtain ⟨f5, d5, a5, t5, G5, p5, q5⟩ := I5.ex
    have x5 := T.xc 5 (by decide)
    have m5 := T.mgC 5 (by decide)
    obtain ⟨f6, d6, a6, t6, G6, p6, q6⟩ := I6.ex
    have x6 := T.xc 6 (by decide)
    have m6 := T.mgC 6 (by decide)
    obtain ⟨f7, d7, a7, t7, G7, p7, q7⟩ := I7.ex
    have x7 := T.xc 7 (by decide)
    have m7 := T.mgC 7 (by decide)
    obtain ⟨f8, d8, a8, t8, G8, p8, q8⟩ := I8.ex
    have x8 := T.xc 8 (by decide)
    have m8 := T.mgC 8 (by decide)
    obtain ⟨f9, d9, a9, t9, G9, p9, q9⟩ := I9.ex
    have x9 := T.xc 9 (by decide)
    have m9 := T.mgC 9 (by decide)
    refine ⟨_, pss_cons (ps_if (pt_cmpR op_eq (pv 0) pe_int (nomark _)) (pss_one (ps_ret (pe_ifExp (pt_val (pv 2)) (pe_xmK x0 a0 t0 G0 hr pass0 q0 (by rfl) m0 (pk_cons (pv 1) pk_nil)) (pe_xm x0 a0 t0 G0 hr pass0 p0 (by decide) (by rfl) m0 (pa_cons (pv 1) pa_nil))))) pss_nil)
      (pss_cons (ps_if (pt_cmpR op_eq (pv 0) pe_int (nomark _)) (pss_one (ps_ret (pe_ifExp (pt_val (pv 2)) (pe_xmK x1 a1 t1 G1 hr pass0 q1 (by rfl) m1 (pk_cons (pv 1) pk_nil)) (pe_xm x1 a1 t1 G1 hr pass0 p1 (by decide) (by rfl) m1 (pa_cons (pv 1) pa_nil))))) pss_nil)
      (pss_cons (ps_if (pt_cmpR op_eq (pv 0) pe_int (nomark _)) (pss_one (ps_ret (pe_ifExp (pt_val (pv 2)) (pe_xmK x2 a2 t2 G2 hr pass0 q2 (by rfl) m2 (pk_cons (pv 1) pk_nil)) (pe_xm x2 a2 t2 G2 hr pass0 p2 (by decide) (by rfl) m2 (pa_cons (pv 1) pa_nil))))) pss_nil)
      (pss_cons (ps_if (pt_cmpR op_eq (pv 0) pe_int (nomark _)) (pss_one (ps_ret (pe_ifExp (pt_val (pv 2)) (pe_xmK x3 a3 t3 G3 hr pass0 q3 (by rfl) m3 (pk_cons (pv 1) pk_nil)) (pe_xm x3 a3 t3 G3 hr pass0 p3 (by decide) (by rfl) m3 (pa_cons (pv 1) pa_nil))))) pss_nil)
      (pss_cons (ps_if (pt_cmpR op_eq (pv 0) pe_int (nomark _)) (pss_one (ps_ret (pe_ifExp (pt_val (pv 2)) (pe_xmK x4 a4 t4 G4 hr pass0 q4 (by rfl) m4 (pk_cons (pv 1) pk_nil)) (pe_xm x4 a4 t4 G4 hr pass0 p4 (by decide) (by rfl) m4 (pa_cons (pv 1) pa_nil))))) pss_nil)
      (pss_cons (ps_if (pt_cmpR op_eq (pv 0) pe_int (nomark _)) (pss_one (ps_ret (pe_ifExp (pt_val (pv 2)) (pe_xmK x5 a5 t5 G5 hr pass0 q5 (by rfl) m5 (pk_cons (pv 1) pk_nil)) (pe_xm x5 a5 t5 G5 hr pass0 p5 (by decide) (by rfl) m5 (pa_cons (pv 1) pa_nil))))) pss_nil)
      (pss_cons (ps_if (pt_cmpR op_eq (pv 0) pe_int (nomark _)) (pss_one (ps_ret (pe_ifExp (pt_val (pv 2)) (pe_xmK x6 a6 t6 G6 hr pass0 q6 (by rfl) m6 (pk_cons (pv 1) pk_nil)) (pe_xm x6 a6 t6 G6 hr pass0 p6 (by decide) (by rfl) m6 (pa_cons (pv 1) pa_nil))))) pss_nil)
      (pss_cons (ps_if (pt_cmpR op_eq (pv 0) pe_int (nomark _)) (pss_one (ps_ret (pe_ifExp (pt_val (pv 2)) (pe_xmK x7 a7 t7 G7 hr pass0 q7 (by rfl) m7 (pk_cons (pv 1) pk_nil)) (pe_xm x7 a7 t7 G7 hr pass0 p7 (by decide) (by rfl) m7 (pa_cons (pv 1) pa_nil))))) pss_nil)
      (pss_cons (ps_if (pt_cmpR op_eq (pv 0) pe_int (nomark _)) (pss_one (ps_ret (pe_xm0 x8 a8 t8 G8 hr pass0 p8 (by rfl) m8))) pss_nil)
      (pss_one (ps_ret (pe_ifExp (pt_val (pv 2)) (pe_xmK x9 a9 t9 G9 hr pass0 q9 (by rfl) m9 (pk_cons (pv 1) (pk_cons (pe_xm x6 a6 t6 G6 hr pass0 p6 (by decide) (by rfl) m6 (pa_cons pe_str pa_nil)) pk_nil))) (pe_xm x9 a9 t9 G9 hr pass0 p9 (by decide) (by rfl) m9 (pa_cons (pv 1) (pa_cons (pe_xm x6 a6 t6 G6 hr pass0 p6 (by decide) (by rfl) m6 (pa_cons pe_str pa_nil)) pa_nil)))))))))))))), ?_⟩
    match i, hi with
    | 0, _ =>
      refine ⟨_, rfl, rfl, _, rfl, ?_⟩
      refine iteY (by decide) ?_
      refine ⟨_, rfl, b, rfl, ?_⟩
      cases b with
      | true =>
        refine iteT ⟨_, rfl, rfl, rfl, fun a ha => ⟨a, v, rfl, upd_same, fun dx n ne => ⟨rfl, ?_⟩⟩⟩
        exact k a _ ha (made1 ha n ne).1 (.inl ⟨by decide, (made1 ha n ne).2⟩)
      | false =>
        refine iteF ⟨_, rfl, rfl, rfl, fun a ha => ⟨a, v, rfl, upd_same, fun dx n ne => ⟨rfl, ?_⟩⟩⟩
        exact k a _ ha (made1 ha n ne).1 (.inl ⟨by decide, (made1 ha n ne).2⟩)
    | 1, _ =>
      refine ⟨_, rfl, rfl, _, rfl, ?_⟩
      refine iteN (by decide) ?_
      refine ⟨_, rfl, rfl, _, rfl, ?_⟩
      refine iteY (by decide) ?_
      refine ⟨_, rfl, b, rfl, ?_⟩
      cases b with
      | true =>
        refine iteT ⟨_, rfl, rfl, rfl, fun a ha => ⟨a, v, rfl, upd_same, fun dx n ne => ⟨rfl, ?_⟩⟩⟩
        exact k a _ ha (made1 ha n ne).1 (.inl ⟨by decide, (made1 ha n ne).2⟩)
      | false =>
        refine iteF ⟨_, rfl, rfl, rfl, fun a ha => ⟨a, v, rfl, upd_same, fun dx n ne => ⟨rfl, ?_⟩⟩⟩
        exact k a _ ha (made1 ha n ne).1 (.inl ⟨by decide, (made1 ha n ne).2⟩)
    | 2, _ =>
      refine ⟨_, rfl, rfl, _, rfl, ?_⟩
      refine iteN (by decide) ?_
      refine ⟨_, rfl, rfl, _, rfl, ?_⟩
      refine iteN (by decide) ?_
      refine ⟨_, rfl, rfl, _, rfl, ?_⟩
      refine iteY (by decide) ?_
      refine ⟨_, rfl, b, rfl, ?_⟩
      cases b with
      | true =>
        refine iteT ⟨_, rfl, rfl, rfl, fun a ha => ⟨a, v, rfl, upd_same, fun dx n ne => ⟨rfl, ?_⟩⟩⟩
        exact k a _ ha (made1 ha n ne).1 (.inl ⟨by decide, (made1 ha n ne).2⟩)
      | false =>
        refine iteF ⟨_, rfl, rfl, rfl, fun a ha => ⟨a, v, rfl, upd_same, fun dx n ne => ⟨rfl, ?_⟩⟩⟩
        exact k a _ ha (made1 ha n ne).1 (.inl ⟨by decide, (made1 ha n ne).2⟩)
    | 3, _ =>
      refine ⟨_, rfl, rfl, _, rfl, ?_⟩
      refine iteN (by decide) ?_
      refine ⟨_, rfl, rfl, _, rfl, ?_⟩
      refine iteN (by decide) ?_
      refine ⟨_, rfl, rfl, _, rfl, ?_⟩
      refine iteN (by decide) ?_
      refine ⟨_, rfl, rfl, _, rfl, ?_⟩
      refine iteY (by decide) ?_
      refine ⟨_, rfl, b, rfl, ?_⟩
      cases b with
      | true =>
        refine iteT ⟨_, rfl, rfl, rfl, fun a ha => ⟨a, v, rfl, upd_same, fun dx n ne => ⟨rfl, ?_⟩⟩⟩
        exact k a _ ha (made1 ha n ne).1 (.inl ⟨by decide, (made1 ha n ne).2⟩)
      | false =>
        refine iteF ⟨_, rfl, rfl, rfl, fun a ha => ⟨a, v, rfl, upd_same, fun dx n ne => ⟨rfl, ?_⟩⟩⟩
        exact k a _ ha (made1 ha n ne).1 (.inl ⟨by decide, (made1 ha n ne).2⟩)
    | 4, _ =>
      refine ⟨_, rfl, rfl, _, rfl, ?_⟩
      refine iteN (by decide) ?_
      refine ⟨_, rfl, rfl, _, rfl, ?_⟩
      refine iteN (by decide) ?_
      refine ⟨_, rfl, rfl, _, rfl, ?_⟩
      refine iteN (by decide) ?_
      refine ⟨_, rfl, rfl, _, rfl, ?_⟩
      refine iteN (by decide) ?_
      refine ⟨_, rfl, rfl, _, rfl, ?_⟩
      refine iteY (by decide) ?_
      refine ⟨_, rfl, b, rfl, ?_⟩
      cases b with
      | true =>
        refine iteT ⟨_, rfl, rfl, rfl, fun a ha => ⟨a, v, rfl, upd_same, fun dx n ne => ⟨rfl, ?_⟩⟩⟩
        exact k a _ ha (made1 ha n ne).1 (.inl ⟨by decide, (made1 ha n ne).2⟩)
      | false =>
        refine iteF ⟨_, rfl, rfl, rfl, fun a ha => ⟨a, v, rfl, upd_same, fun dx n ne => ⟨rfl, ?_⟩⟩⟩
        exact k a _ ha (made1 ha n ne).1 (.inl ⟨by decide, (made1 ha n ne).2⟩)
    | 5, _ =>
      refine ⟨_, rfl, rfl, _, rfl, ?_⟩
      refine iteN (by decide) ?_
      refine ⟨_, rfl, rfl, _, rfl, ?_⟩
      refine iteN (by decide) ?_
      refine ⟨_, rfl, rfl, _, rfl, ?_⟩
      refine iteN (by decide) ?_
      refine ⟨_, rfl, rfl, _, rfl, ?_⟩
      refine iteN (by decide) ?_
      refine ⟨_, rfl, rfl, _, rfl, ?_⟩
      refine iteN (by decide) ?_
      refine ⟨_, rfl, rfl, _, rfl, ?_⟩
      refine iteY (by decide) ?_
      refine ⟨_, rfl, b, rfl, ?_⟩
      cases b with
      | true =>
        refine iteT ⟨_, rfl, rfl, rfl, fun a ha => ⟨a, v, rfl, upd_same, fun dx n ne => ⟨rfl, ?_⟩⟩⟩
        exact k a _ ha (made1 ha n ne).1 (.inl ⟨by decide, (made1 ha n ne).2⟩)
      | false =>
        refine iteF ⟨_, rfl, rfl, rfl, fun a ha => ⟨a, v, rfl, upd_same, fun dx n ne => ⟨rfl, ?_⟩⟩⟩
        exact k a _ ha (made1 ha n ne).1 (.inl ⟨by decide, (made1 ha n ne).2⟩)
    | 6, _ =>
      refine ⟨_, rfl, rfl, _, rfl, ?_⟩
      refine iteN (by decide) ?_
      refine ⟨_, rfl, rfl, _, rfl, ?_⟩
      refine iteN (by decide) ?_
      refine ⟨_, rfl, rfl, _, rfl, ?_⟩
      refine iteN (by decide) ?_
      refine ⟨_, rfl, rfl, _, rfl, ?_⟩
      refine iteN (by decide) ?_
      refine ⟨_, rfl, rfl, _, rfl, ?_⟩
      refine iteN (by decide) ?_
      refine ⟨_, rfl, rfl, _, rfl, ?_⟩
      refine iteN (by decide) ?_
      refine ⟨_, rfl, rfl, _, rfl, ?_⟩
      refine iteY (by decide) ?_
      refine ⟨_, rfl, b, rfl, ?_⟩
      cases b with
      | true =>
        refine iteT ⟨_, rfl, rfl, rfl, fun a ha => ⟨a, v, rfl, upd_same, fun dx n ne => ⟨rfl, ?_⟩⟩⟩
        exact k a _ ha (made1 ha n ne).1 (.inl ⟨by decide, (made1 ha n ne).2⟩)
      | false =>
        refine iteF ⟨_, rfl, rfl, rfl, fun a ha => ⟨a, v, rfl, upd_same, fun dx n ne => ⟨rfl, ?_⟩⟩⟩
        exact k a _ ha (made1 ha n ne).1 (.inl ⟨by decide, (made1 ha n ne).2⟩)
    | 7, _ =>
      refine ⟨_, rfl, rfl, _, rfl, ?_⟩
      refine iteN (by decide) ?_
      refine ⟨_, rfl, rfl, _, rfl, ?_⟩
      refine iteN (by decide) ?_
      refine ⟨_, rfl, rfl, _, rfl, ?_⟩
      refine iteN (by decide) ?_
      refine ⟨_, rfl, rfl, _, rfl, ?_⟩
      refine iteN (by decide) ?_
      refine ⟨_, rfl, rfl, _, rfl, ?_⟩
      refine iteN (by decide) ?_
      refine ⟨_, rfl, rfl, _, rfl, ?_⟩
      refine iteN (by decide) ?_
      refine ⟨_, rfl, rfl, _, rfl, ?_⟩
      refine iteN (by decide) ?_
      refine ⟨_, rfl, rfl, _, rfl, ?_⟩
      refine iteY (by decide) ?_
      refine ⟨_, rfl, b, rfl, ?_⟩
      cases b with
      | true =>
        refine iteT ⟨_, rfl, rfl, rfl, fun a ha => ⟨a, v, rfl, upd_same, fun dx n ne => ⟨rfl, ?_⟩⟩⟩
        exact k a _ ha (made1 ha n ne).1 (.inl ⟨by decide, (made1 ha n ne).2⟩)
      | false =>
        refine iteF ⟨_, rfl, rfl, rfl, fun a ha => ⟨a, v, rfl, upd_same, fun dx n ne => ⟨rfl, ?_⟩⟩⟩
        exact k a _ ha (made1 ha n ne).1 (.inl ⟨by decide, (made1 ha n ne).2⟩)
    | 8, _ =>
      refine ⟨_, rfl, rfl, _, rfl, ?_⟩
      refine iteN (by decide) ?_
      refine ⟨_, rfl, rfl, _, rfl, ?_⟩
      refine iteN (by decide) ?_
      refine ⟨_, rfl, rfl, _, rfl, ?_⟩
      refine iteN (by decide) ?_
      refine ⟨_, rfl, rfl, _, rfl, ?_⟩
      refine iteN (by decide) ?_
      refine ⟨_, rfl, rfl, _, rfl, ?_⟩
      refine iteN (by decide) ?_
      refine ⟨_, rfl, rfl, _, rfl, ?_⟩
      refine iteN (by decide) ?_
      refine ⟨_, rfl, rfl, _, rfl, ?_⟩
      refine iteN (by decide) ?_
      refine ⟨_, rfl, rfl, _, rfl, ?_⟩
      refine iteN (by decide) ?_
      refine ⟨_, rfl, rfl, _, rfl, ?_⟩
      refine iteY (by decide) ?_
      refine ⟨rfl, rfl, fun a ha => ⟨a, rfl, upd_same, rfl, ?_⟩⟩
      exact k a _ ha (Same.new (Same.refl _) ha) (.inr (.inl ⟨rfl, .inl ⟨rfl, upd_same⟩⟩))
    | 9, _ =>
      refine ⟨_, rfl, rfl, _, rfl, ?_⟩
      refine iteN (by decide) ?_
      refine ⟨_, rfl, rfl, _, rfl, ?_⟩
      refine iteN (by decide) ?_
      refine ⟨_, rfl, rfl, _, rfl, ?_⟩
      refine iteN (by decide) ?_
      refine ⟨_, rfl, rfl, _, rfl, ?_⟩
      refine iteN (by decide) ?_
      refine ⟨_, rfl, rfl, _, rfl, ?_⟩
      refine iteN (by decide) ?_
      refine ⟨_, rfl, rfl, _, rfl, ?_⟩
      refine iteN (by decide) ?_
      refine ⟨_, rfl, rfl, _, rfl, ?_⟩
      refine iteN (by decide) ?_
      refine ⟨_, rfl, rfl, _, rfl, ?_⟩
      refine iteN (by decide) ?_
      refine ⟨_, rfl, rfl, _, rfl, ?_⟩
      refine iteN (by decide) ?_
      refine ⟨_, rfl, b, rfl, ?_⟩
      cases b with
      | true =>
        refine iteT ⟨_, rfl, rfl, rfl, fun m hm => ⟨m, _, rfl, upd_same, fun dm nm' nem => ⟨rfl, ?_⟩⟩⟩
        obtain ⟨s1, y1⟩ := made1 (f := "name") (v := .str "m") hm nm' nem
        refine ⟨rfl, rfl, fun a ha => ⟨a, v, .ref m, rfl, upd_same, fun dx n ne => ⟨rfl, ?_⟩⟩⟩
        obtain ⟨s2, y2⟩ := made2 (f := "row") (g := "why") (v := v) (u := .ref m) ha n ne
        exact k a _ (s1.free ha) (s1.trans s2) (.inr (.inr ⟨rfl, m, y2, y1.same s2⟩))
      | false =>
        refine iteF ⟨_, rfl, rfl, rfl, fun m hm => ⟨m, _, rfl, upd_same, fun dm nm' nem => ⟨rfl, ?_⟩⟩⟩
        obtain ⟨s1, y1⟩ := made1 (f := "name") (v := .str "m") hm nm' nem
        refine ⟨rfl, rfl, fun a ha => ⟨a, v, .ref m, rfl, upd_same, fun dx n ne => ⟨rfl, ?_⟩⟩⟩
        obtain ⟨s2, y2⟩ := made2 (f := "row") (g := "why") (v := v) (u := .ref m) ha n ne
        exact k a _ (s1.free ha) (s1.trans s2) (.inr (.inr ⟨rfl, m, y2, y1.same s2⟩))
end
end My

set_option Elab.async false
set_option linter.all false
set_option maxRecDepth 100000
set_option maxHeartbeats 4000000
namespace My
open PySem L2
theorem iteB0 {b : Bool} {A B : Prop} (hb : b = false) (h : B) : if b = true then A else B := by
  rw [hb]
  exact iteF h
theorem iteB1 {b : Bool} {A B : Prop} (hb : b = true) (h : A) : if b = true then A else B := by
  rw [hb]
  exact iteT h
section
variable {P : Program} {w : World} {K : PySem.W.Frag} {mg : Str → Option Value} {base : Heap} {CS : Nat → Addr}
theorem kitAny3 {t c1 c2 c3 : Value} {b1 b2 b3 : Bool} (h1 : PySem.W.kitOne K t c1 = some b1) (h2 : PySem.W.kitOne K t c2 = some b2) (h3 : PySem.W.kitOne K t c3 = some b3) :
    PySem.W.kitAny K t [c1, c2, c3] = some (b1 || (b2 || b3)) := by
  refine kitAny_cons h1 (fun e1 => ?_) (fun e1 => by rw [e1]; rfl)
  rw [e1]
  refine kitAny_cons h2 (fun e2 => ?_) (fun e2 => by rw [e2]; rfl)
  rw [e2]
  refine kitAny_cons h3 (fun e3 => ?_) (fun e3 => by rw [e3]; rfl)
  rw [e3]
  exact kitAny_nil
theorem rd_is1 {σ : L2.St} {H : Hp} {Q : VK} {a : Addr} {i j : Nat} {fs : List (Str × V)} (T : CT K mg CS) (hσ : σ[0]? = some (some (.ref a))) (hX : XAt H a (CS i) fs) (hi : i < 10) (hj : j < 10) (h : Q (.bl (decide (i = j))) H) :
    tCB (rIsX K) (tCons (tVar 0) (tCons (tC (.ref (CS j))) tNil)) σ H Q :=
  ⟨_, hσ, a, CS i, .ref (CS j), bT i, fs, .ref (CS j), _, rfl, .own _, T.xc i hi, hX, T.kit i j hi hj, h⟩
theorem rd_isB {σ : L2.St} {H : Hp} {Q : VK} {a : Addr} {i k : Nat} {fs : List (Str × V)} (T : CT K mg CS) (hσ : σ[0]? = some (some (.ref a))) (hX : XAt H a (CS i) fs) (hi : i < 10) (hk : k < 7) (h : Q (.bl (own i k)) H) :
    tCB (rIsX K) (tCons (tVar 0) (tCons (tC (.ty (bN k))) tNil)) σ H Q :=
  ⟨_, hσ, a, CS i, .ty (bN k), bT i, fs, .type (bN k), _, rfl, .ty _, T.xc i hi, hX, T.kitB i k hi hk, h⟩
theorem rd_isT {σ : L2.St} {H : Hp} {Q : VK} {a : Addr} {i j1 j2 j3 : Nat} {fs : List (Str × V)} (T : CT K mg CS) (hσ : σ[0]? = some (some (.ref a))) (hX : XAt H a (CS i) fs) (hi : i < 10) (h1 : j1 < 10) (h2 : j2 < 10) (h3 : j3 < 10)
    (h : ∀ H', Same H H' → Q (.bl (decide (i = j1) || (decide (i = j2) || decide (i = j3)))) H') :
    tCB (rIsXT K) (tCons (tVar 0) (tCons (tTup (tCons (tC (.ref (CS j1))) (tCons (tC (.ref (CS j2))) (tCons (tC (.ref (CS j3))) tNil)))) tNil)) σ H Q := by
  refine ⟨_, hσ, (by show 3 ≤ sizeLine; decide), fun tp ht => ?_⟩
  have s1 : Same H (upd H tp (.tup [.ref (CS j1), .ref (CS j2), .ref (CS j3)])) := Same.new (Same.refl _) ht
  exact ⟨a, CS i, tp, _, bT i, fs, _, _, rfl, upd_same, .cons (.own _) (.cons (.own _) (.cons (.own _) .nil)), T.xc i hi, hX.same s1, kitAny3 (T.kit i j1 hi h1) (T.kit i j2 hi h2) (T.kit i j3 hi h3), h _ s1⟩
theorem rd_get {σ : L2.St} {H : Hp} {Q : VK} {a : Addr} {i : Nat} {f : Str} {v : V} {fs : List (Str × V)} (T : CT K mg CS) (hσ : σ[0]? = some (some (.ref a))) (hX : XAt H a (CS i) fs) (hi : i < 10)
    (hf : f ∈ (["row", "thing", "most", "name", "rank", "why"] : List Str)) (hl : fs.lookup f = some v) (h : Q v H) : tXg K f (tVar 0) σ H Q := by
  rcases hX with ⟨e, _⟩ | ⟨dx, h1, h2⟩
  · rw [e] at hl
    cases hl
  · exact ⟨_, hσ, a, CS i, dx, bT i, fs, v, rfl, T.xc i hi, T.nf i hi f hf, h1, h2, hl, h⟩
def spField (CS : Nat → Addr) : Sp := fun vs H Q _ => ∃ (a : Addr) (i : Nat) (v : V), vs = [.ref a] ∧ i < 10 ∧ MadeAt CS H a i v ∧ ∀ H', Same H H' → Q (if i = 8 then .non else v) H'
abbrev sField : Stmt := top 16
theorem scField : FnScope ["_law_e"] ["_law_e"] (defScope sField) := ⟨rfl, rfl, rfl, by decide +kernel, rfl, by decide +kernel, by decide +kernel⟩
theorem MadeAt.fields {H : Hp} {a : Addr} {i : Nat} {v : V} (m : MadeAt CS H a i v) (hi : i < 10) : ∃ fs, XAt H a (CS i) fs ∧ (i ≠ 8 → fs.lookup (fld i) = some v) := by
  rcases m with ⟨h, x⟩ | ⟨rfl, x⟩ | ⟨rfl, m, x, _⟩
  · exact ⟨_, x, fun _ => by simp [List.lookup]⟩
  · exact ⟨_, x, fun z => absurd rfl z⟩
  · exact ⟨_, x, fun _ => by
      have e : ((fld 9) == ("why" : Str)) = false := by decide +kernel
      have e2 : ((fld 9) == ("row" : Str)) = true := by decide +kernel
      simp [List.lookup, e, e2]⟩

theorem ok_field {f : Addr} {fd : FuncData} (F : Fun K "_law_field_of" "_law_field_of" sField f fd) (T : CT K mg CS) : FnOk P w K mg base CX0 1 f fd ["_law_e"] (spField CS) := by
  refine F.ok scField (fun vs H Q E h => ?_) (fun cdv A outer s H vs Q E hr h => ?_)
  · obtain ⟨a, i, v, rfl, _⟩ := h
    rfl
  · obtain ⟨a, i, v, rfl, hi, m, k⟩ := h
    obtain ⟨fs, hX, hv⟩ := m.fields hi
    refine ⟨_, pss_cons (ps_if (pt_val (pe_callB call_isXT (by rfl) T.isi (by decide +kernel) (pa_cons (pv 0) (pa_cons (pe_tup (pa_cons (pe_glob (by rfl) (T.mgC 0 (by decide)) (show RelV (.ref (CS 0)) _ from rfl)) (pa_cons (pe_glob (by rfl) (T.mgC 1 (by decide)) (show RelV (.ref (CS 1)) _ from rfl)) (pa_cons (pe_glob (by rfl) (T.mgC 9 (by decide)) (show RelV (.ref (CS 9)) _ from rfl)) pa_nil)))) pa_nil)))) (pss_one (ps_ret (pe_xget (pv 0)))) pss_nil)
      (pss_cons (ps_if (pt_val (pe_callB call_isX (by rfl) T.isi (by decide +kernel) (pa_cons (pv 0) (pa_cons (pe_glob (by rfl) (T.mgC 2 (by decide)) (show RelV (.ref (CS 2)) _ from rfl)) pa_nil)))) (pss_one (ps_ret (pe_xget (pv 0)))) pss_nil)
      (pss_cons (ps_if (pt_val (pe_callB call_isX (by rfl) T.isi (by decide +kernel) (pa_cons (pv 0) (pa_cons (pe_glob (by rfl) (T.mgC 3 (by decide)) (show RelV (.ref (CS 3)) _ from rfl)) pa_nil)))) (pss_one (ps_ret (pe_xget (pv 0)))) pss_nil)
      (pss_cons (ps_if (pt_val (pe_callB call_isXT (by rfl) T.isi (by decide +kernel) (pa_cons (pv 0) (pa_cons (pe_tup (pa_cons (pe_glob (by rfl) (T.mgC 4 (by decide)) (show RelV (.ref (CS 4)) _ from rfl)) (pa_cons (pe_glob (by rfl) (T.mgC 5 (by decide)) (show RelV (.ref (CS 5)) _ from rfl)) (pa_cons (pe_glob (by rfl) (T.mgC 6 (by decide)) (show RelV (.ref (CS 6)) _ from rfl)) pa_nil)))) pa_nil)))) (pss_one (ps_ret (pe_xget (pv 0)))) pss_nil)
      (pss_one (ps_ret (pe_ifExp (pt_val (pe_callB call_isX (by rfl) T.isi (by decide +kernel) (pa_cons (pv 0) (pa_cons (pe_glob (by rfl) (T.mgC 7 (by decide)) (show RelV (.ref (CS 7)) _ from rfl)) pa_nil)))) (pe_xget (pv 0)) pe_non)))))), ?_⟩
    match i, hi with
    | 0, hi =>
      refine rd_isT T rfl hX hi (by decide) (by decide) (by decide) fun H0 s0 => ⟨_, rfl, iteB1 (by decide) ?_⟩
      have y0 := hX.same s0
      have z0 := Same.trans (Same.refl H) s0
      exact rd_get T rfl y0 hi (by decide) (hv (by decide)) (k _ z0)
    | 1, hi =>
      refine rd_isT T rfl hX hi (by decide) (by decide) (by decide) fun H0 s0 => ⟨_, rfl, iteB1 (by decide) ?_⟩
      have y0 := hX.same s0
      have z0 := Same.trans (Same.refl H) s0
      exact rd_get T rfl y0 hi (by decide) (hv (by decide)) (k _ z0)
    | 2, hi =>
      refine rd_isT T rfl hX hi (by decide) (by decide) (by decide) fun H0 s0 => ⟨_, rfl, iteB0 (by decide) ?_⟩
      have y0 := hX.same s0
      have z0 := Same.trans (Same.refl H) s0
      refine rd_is1 T rfl y0 hi (by decide) ⟨_, rfl, iteB1 (by decide) ?_⟩
      exact rd_get T rfl y0 hi (by decide) (hv (by decide)) (k _ z0)
    | 3, hi =>
      refine rd_isT T rfl hX hi (by decide) (by decide) (by decide) fun H0 s0 => ⟨_, rfl, iteB0 (by decide) ?_⟩
      have y0 := hX.same s0
      have z0 := Same.trans (Same.refl H) s0
      refine rd_is1 T rfl y0 hi (by decide) ⟨_, rfl, iteB0 (by decide) ?_⟩
      refine rd_is1 T rfl y0 hi (by decide) ⟨_, rfl, iteB1 (by decide) ?_⟩
      exact rd_get T rfl y0 hi (by decide) (hv (by decide)) (k _ z0)
    | 4, hi =>
      refine rd_isT T rfl hX hi (by decide) (by decide) (by decide) fun H0 s0 => ⟨_, rfl, iteB0 (by decide) ?_⟩
      have y0 := hX.same s0
      have z0 := Same.trans (Same.refl H) s0
      refine rd_is1 T rfl y0 hi (by decide) ⟨_, rfl, iteB0 (by decide) ?_⟩
      refine rd_is1 T rfl y0 hi (by decide) ⟨_, rfl, iteB0 (by decide) ?_⟩
      refine rd_isT T rfl y0 hi (by decide) (by decide) (by decide) fun H3 s3 => ⟨_, rfl, iteB1 (by decide) ?_⟩
      have y3 := y0.same s3
      have z3 := Same.trans z0 s3
      exact rd_get T rfl y3 hi (by decide) (hv (by decide)) (k _ z3)
    | 5, hi =>
      refine rd_isT T rfl hX hi (by decide) (by decide) (by decide) fun H0 s0 => ⟨_, rfl, iteB0 (by decide) ?_⟩
      have y0 := hX.same s0
      have z0 := Same.trans (Same.refl H) s0
      refine rd_is1 T rfl y0 hi (by decide) ⟨_, rfl, iteB0 (by decide) ?_⟩
      refine rd_is1 T rfl y0 hi (by decide) ⟨_, rfl, iteB0 (by decide) ?_⟩
      refine rd_isT T rfl y0 hi (by decide) (by decide) (by decide) fun H3 s3 => ⟨_, rfl, iteB1 (by decide) ?_⟩
      have y3 := y0.same s3
      have z3 := Same.trans z0 s3
      exact rd_get T rfl y3 hi (by decide) (hv (by decide)) (k _ z3)
    | 6, hi =>
      refine rd_isT T rfl hX hi (by decide) (by decide) (by decide) fun H0 s0 => ⟨_, rfl, iteB0 (by decide) ?_⟩
      have y0 := hX.same s0
      have z0 := Same.trans (Same.refl H) s0
      refine rd_is1 T rfl y0 hi (by decide) ⟨_, rfl, iteB0 (by decide) ?_⟩
      refine rd_is1 T rfl y0 hi (by decide) ⟨_, rfl, iteB0 (by decide) ?_⟩
      refine rd_isT T rfl y0 hi (by decide) (by decide) (by decide) fun H3 s3 => ⟨_, rfl, iteB1 (by decide) ?_⟩
      have y3 := y0.same s3
      have z3 := Same.trans z0 s3
      exact rd_get T rfl y3 hi (by decide) (hv (by decide)) (k _ z3)
    | 7, hi =>
      refine rd_isT T rfl hX hi (by decide) (by decide) (by decide) fun H0 s0 => ⟨_, rfl, iteB0 (by decide) ?_⟩
      have y0 := hX.same s0
      have z0 := Same.trans (Same.refl H) s0
      refine rd_is1 T rfl y0 hi (by decide) ⟨_, rfl, iteB0 (by decide) ?_⟩
      refine rd_is1 T rfl y0 hi (by decide) ⟨_, rfl, iteB0 (by decide) ?_⟩
      refine rd_isT T rfl y0 hi (by decide) (by decide) (by decide) fun H3 s3 => ⟨_, rfl, iteB0 (by decide) ?_⟩
      have y3 := y0.same s3
      have z3 := Same.trans z0 s3
      refine rd_is1 T rfl y3 hi (by decide) ⟨_, rfl, iteB1 (by decide) ?_⟩
      exact rd_get T rfl y3 hi (by decide) (hv (by decide)) (k _ z3)
    | 8, hi =>
      refine rd_isT T rfl hX hi (by decide) (by decide) (by decide) fun H0 s0 => ⟨_, rfl, iteB0 (by decide) ?_⟩
      have y0 := hX.same s0
      have z0 := Same.trans (Same.refl H) s0
      refine rd_is1 T rfl y0 hi (by decide) ⟨_, rfl, iteB0 (by decide) ?_⟩
      refine rd_is1 T rfl y0 hi (by decide) ⟨_, rfl, iteB0 (by decide) ?_⟩
      refine rd_isT T rfl y0 hi (by decide) (by decide) (by decide) fun H3 s3 => ⟨_, rfl, iteB0 (by decide) ?_⟩
      have y3 := y0.same s3
      have z3 := Same.trans z0 s3
      refine rd_is1 T rfl y3 hi (by decide) ⟨_, rfl, iteB0 (by decide) ?_⟩
      exact k _ z3
    | 9, hi =>
      refine rd_isT T rfl hX hi (by decide) (by decide) (by decide) fun H0 s0 => ⟨_, rfl, iteB1 (by decide) ?_⟩
      have y0 := hX.same s0
      have z0 := Same.trans (Same.refl H) s0
      exact rd_get T rfl y0 hi (by decide) (hv (by decide)) (k _ z0)
end
end My

set_option Elab.async false
set_option linter.all false
set_option maxRecDepth 100000
set_option maxHeartbeats 4000000
namespace My
open PySem L2
def prs (i : Nat) : List (Str × Bool) := [("text", decide (i = 0)), ("row", decide (i = 1)), ("script", decide (i = 2)), ("many", decide (i = 3)), ("loop", decide (i = 4)), ("rank", decide (i = 7)), ("promise", decide (i = 5)), ("mark", decide (i = 6)), ("busy", decide (i = 8)), ("undone", decide (i = 9))]
def wd : Nat → Str
  | 0 => "text" | 1 => "row" | 2 => "script" | 3 => "many" | 4 => "loop" | 5 => "promise" | 6 => "mark" | 7 => "rank" | 8 => "busy" | _ => "undone"
def sel (l : List (Str × Bool)) : List Str := (l.filter (·.2)).map (·.1)
theorem sel_all (i : Nat) (hi : i < 10) : sel (prs i) = [wd i] := by
  match i, hi with
  | 0, _ => rfl
  | 1, _ => rfl
  | 2, _ => rfl
  | 3, _ => rfl
  | 4, _ => rfl
  | 5, _ => rfl
  | 6, _ => rfl
  | 7, _ => rfl
  | 8, _ => rfl
  | 9, _ => rfl
theorem own_all (i : Nat) (hi : i < 10) : ([.bl (own i 0), .bl (own i 1), .bl (own i 2), .bl (own i 3), .bl (own i 4), .bl (own i 5), .bl (own i 6)] : List V) = (ownB i).map V.bl := by
  match i, hi with
  | 0, _ => rfl
  | 1, _ => rfl
  | 2, _ => rfl
  | 3, _ => rfl
  | 4, _ => rfl
  | 5, _ => rfl
  | 6, _ => rfl
  | 7, _ => rfl
  | 8, _ => rfl
  | 9, _ => rfl
section
variable {P : Program} {w : World} {K : PySem.W.Frag} {mg : Str → Option Value} {base : Heap} {CS : Nat → Addr}
theorem rd_pair {σ : L2.St} {H : Hp} {Q : VK} {a : Addr} {i j : Nat} {u : Str} {fs : List (Str × V)} (T : CT K mg CS) (hσ : σ[0]? = some (some (.ref a))) (hX : XAt H a (CS i) fs) (hi : i < 10) (hj : j < 10)
    (h : ∀ t H', Same H H' → H' t = some (.tup [.str u, .bl (decide (i = j))]) → Q (.ref t) H') :
    tTup (tCons (tC (.str u)) (tCons (tCB (rIsX K) (tCons (tVar 0) (tCons (tC (.ref (CS j))) tNil))) tNil)) σ H Q :=
  rd_is1 T hσ hX hi hj ⟨by show 2 ≤ sizeLine; decide, fun t ht => h t _ (Same.new (Same.refl _) ht) upd_same⟩
theorem asg_of {te : TE} {g : TG} {b : TS} {D : Ends} {σ : L2.St} {H : Hp} (h : te σ H fun x H1 => g x σ H1 fun σ2 H2 => b D σ2 H2) : tSeq (tAsg te g) b D σ H := h
theorem lst_of {t : TA} {σ : L2.St} {H : Hp} {Q : VK} (h : t σ H fun xs H1 => xs.length ≤ sizeLine ∧ ∀ p, H1 p = none → Q (.ref p) (upd H1 p (.lst xs))) : tLst t σ H Q := h
theorem cons_of {ta : TE} {tr : TA} {σ : L2.St} {H : Hp} {Q : List V → Hp → Prop} (h : ta σ H fun x H1 => tr σ H1 fun xs H2 => Q (x :: xs) H2) : tCons ta tr σ H Q := h
def spKinds (CS : Nat → Addr) : Sp := fun vs H Q _ => ∃ (a : Addr) (i : Nat) (fs : List (Str × V)), vs = [.ref a] ∧ i < 10 ∧ XAt H a (CS i) fs ∧
  ∀ (t lf lo : Addr) (H' : Hp), Same H H' → H' t = some (.tup [.ref lf, .ref lo]) → H' lf = some (.lst [.str (wd i)]) → H' lo = some (.lst ((ownB i).map V.bl)) → Q (.ref t) H'
abbrev sKinds : Stmt := top 14
theorem scKinds : FnScope ["_law_e", "_law_some", "_law_own", "_law_word", "_law_so"] ["_law_e"] (defScope sKinds) := ⟨rfl, rfl, rfl, by decide +kernel, rfl, by decide +kernel, by decide +kernel⟩

theorem ok_kinds {f : Addr} {fd : FuncData} (F : Fun K "_law_kinds" "_law_kinds" sKinds f fd) (T : CT K mg CS) : FnOk P w K mg base CX0 1 f fd ["_law_e"] (spKinds CS) := by
  refine F.ok scKinds (fun vs H Q E h => ?_) (fun cdv A outer s H vs Q E hr h => ?_)
  · obtain ⟨a, i, fs, rfl, _⟩ := h
    rfl
  · obtain ⟨a, i, fs, rfl, hi, hX, k⟩ := h
    have nd := scKinds.nd
    refine ⟨_, pss_cons (ps_set (i := 1) nd rfl (Or.inl rfl) (pe_lst (pa_cons (pe_tup (pa_cons pe_str (pa_cons (pe_callB call_isX (by rfl) T.isi (by decide +kernel) (pa_cons (pv 0) (pa_cons (pe_glob (by rfl) (T.mgC 0 (by decide)) (show RelV (.ref (CS 0)) _ from rfl)) pa_nil))) pa_nil))) (pa_cons (pe_tup (pa_cons pe_str (pa_cons (pe_callB call_isX (by rfl) T.isi (by decide +kernel) (pa_cons (pv 0) (pa_cons (pe_glob (by rfl) (T.mgC 1 (by decide)) (show RelV (.ref (CS 1)) _ from rfl)) pa_nil))) pa_nil))) (pa_cons (pe_tup (pa_cons pe_str (pa_cons (pe_callB call_isX (by rfl) T.isi (by decide +kernel) (pa_cons (pv 0) (pa_cons (pe_glob (by rfl) (T.mgC 2 (by decide)) (show RelV (.ref (CS 2)) _ from rfl)) pa_nil))) pa_nil))) pa_nil)))))
      (pss_cons (ps_set (i := 1) nd rfl (Or.inl rfl) (pe_op op_cat (pv 1) (pe_lst (pa_cons (pe_tup (pa_cons pe_str (pa_cons (pe_callB call_isX (by rfl) T.isi (by decide +kernel) (pa_cons (pv 0) (pa_cons (pe_glob (by rfl) (T.mgC 3 (by decide)) (show RelV (.ref (CS 3)) _ from rfl)) pa_nil))) pa_nil))) (pa_cons (pe_tup (pa_cons pe_str (pa_cons (pe_callB call_isX (by rfl) T.isi (by decide +kernel) (pa_cons (pv 0) (pa_cons (pe_glob (by rfl) (T.mgC 4 (by decide)) (show RelV (.ref (CS 4)) _ from rfl)) pa_nil))) pa_nil))) (pa_cons (pe_tup (pa_cons pe_str (pa_cons (pe_callB call_isX (by rfl) T.isi (by decide +kernel) (pa_cons (pv 0) (pa_cons (pe_glob (by rfl) (T.mgC 7 (by decide)) (show RelV (.ref (CS 7)) _ from rfl)) pa_nil))) pa_nil))) pa_nil))))))
      (pss_cons (ps_set (i := 1) nd rfl (Or.inl rfl) (pe_op op_cat (pv 1) (pe_lst (pa_cons (pe_tup (pa_cons pe_str (pa_cons (pe_callB call_isX (by rfl) T.isi (by decide +kernel) (pa_cons (pv 0) (pa_cons (pe_glob (by rfl) (T.mgC 5 (by decide)) (show RelV (.ref (CS 5)) _ from rfl)) pa_nil))) pa_nil))) (pa_cons (pe_tup (pa_cons pe_str (pa_cons (pe_callB call_isX (by rfl) T.isi (by decide +kernel) (pa_cons (pv 0) (pa_cons (pe_glob (by rfl) (T.mgC 6 (by decide)) (show RelV (.ref (CS 6)) _ from rfl)) pa_nil))) pa_nil))) pa_nil)))))
      (pss_cons (ps_set (i := 1) nd rfl (Or.inl rfl) (pe_op op_cat (pv 1) (pe_lst (pa_cons (pe_tup (pa_cons pe_str (pa_cons (pe_callB call_isX (by rfl) T.isi (by decide +kernel) (pa_cons (pv 0) (pa_cons (pe_glob (by rfl) (T.mgC 8 (by decide)) (show RelV (.ref (CS 8)) _ from rfl)) pa_nil))) pa_nil))) (pa_cons (pe_tup (pa_cons pe_str (pa_cons (pe_callB call_isX (by rfl) T.isi (by decide +kernel) (pa_cons (pv 0) (pa_cons (pe_glob (by rfl) (T.mgC 9 (by decide)) (show RelV (.ref (CS 9)) _ from rfl)) pa_nil))) pa_nil))) pa_nil)))))
      (pss_cons (ps_set (i := 2) nd rfl (Or.inl rfl) (pe_lst (pa_cons (pe_callB call_isX (by rfl) T.isi (by decide +kernel) (pa_cons (pv 0) (pa_cons (pe_bltn (by rfl) (T.bn 0 (by decide)) (by kernel_rfl) (show RelV (.ty (bN 0)) (.type (bN 0)) from rfl)) pa_nil))) (pa_cons (pe_callB call_isX (by rfl) T.isi (by decide +kernel) (pa_cons (pv 0) (pa_cons (pe_bltn (by rfl) (T.bn 1 (by decide)) (by kernel_rfl) (show RelV (.ty (bN 1)) (.type (bN 1)) from rfl)) pa_nil))) (pa_cons (pe_callB call_isX (by rfl) T.isi (by decide +kernel) (pa_cons (pv 0) (pa_cons (pe_bltn (by rfl) (T.bn 2 (by decide)) (by kernel_rfl) (show RelV (.ty (bN 2)) (.type (bN 2)) from rfl)) pa_nil))) (pa_cons (pe_callB call_isX (by rfl) T.isi (by decide +kernel) (pa_cons (pv 0) (pa_cons (pe_bltn (by rfl) (T.bn 3 (by decide)) (by kernel_rfl) (show RelV (.ty (bN 3)) (.type (bN 3)) from rfl)) pa_nil))) pa_nil))))))
      (pss_cons (ps_set (i := 2) nd rfl (Or.inl rfl) (pe_op op_cat (pv 2) (pe_lst (pa_cons (pe_callB call_isX (by rfl) T.isi (by decide +kernel) (pa_cons (pv 0) (pa_cons (pe_bltn (by rfl) (T.bn 4 (by decide)) (by kernel_rfl) (show RelV (.ty (bN 4)) (.type (bN 4)) from rfl)) pa_nil))) (pa_cons (pe_callB call_isX (by rfl) T.isi (by decide +kernel) (pa_cons (pv 0) (pa_cons (pe_bltn (by rfl) (T.bn 5 (by decide)) (by kernel_rfl) (show RelV (.ty (bN 5)) (.type (bN 5)) from rfl)) pa_nil))) (pa_cons (pe_callB call_isX (by rfl) T.isi (by decide +kernel) (pa_cons (pv 0) (pa_cons (pe_bltn (by rfl) (T.bn 6 (by decide)) (by kernel_rfl) (show RelV (.ty (bN 6)) (.type (bN 6)) from rfl)) pa_nil))) pa_nil))))))
      (pss_one (ps_ret (pe_tup (pa_cons (pe_lc (own := [("_law_word", 3), ("_law_so", 4)]) (g := gTup K 2 (gCons (gName 3) (gCons (gName 4) gNil))) rfl nd (pi_list (pv 1)) (blkOk_by (N := ["_law_e", "_law_some", "_law_own", "_law_word", "_law_so"]) (sc := defScope sKinds) (by decide +kernel))
        (fun _ _ _ _ _ => pg_tup (n := 2) rfl (pgs_cons (pg_name (i := 3) nd rfl (Or.inl rfl) (Or.inr rfl)) (pgs_cons (pg_name (i := 4) nd rfl (Or.inl rfl) (Or.inr rfl)) pgs_nil)))
        (fun _ _ _ _ _ => pts_one (pt_val (pv 4))) (fun _ _ _ _ _ => pv 3)) (pa_cons (pv 2) pa_nil)))))))))), ?_⟩
    have S := Same.refl H
    refine asg_of ?_
    refine lst_of ?_
    refine cons_of (rd_pair T rfl (hX.same S) hi (by decide) fun t0 H0 s0 e0 => ?_)
    have S0 := Same.trans S s0
    refine cons_of (rd_pair T rfl (hX.same S0) hi (by decide) fun t1 H1 s1 e1 => ?_)
    have S1 := Same.trans S0 s1
    refine cons_of (rd_pair T rfl (hX.same S1) hi (by decide) fun t2 H2 s2 e2 => ?_)
    have S2 := Same.trans S1 s2
    refine ⟨by show 3 ≤ sizeLine; decide, fun l0 hl0 => ?_⟩
    have r0 : Same H2 (upd H2 l0 (.lst [.ref t0, .ref t1, .ref t2])) := Same.new (Same.refl _) hl0
    have T0 := Same.trans S2 r0
    have c0 : (upd H2 l0 (.lst [.ref t0, .ref t1, .ref t2])) l0 = some (.lst [.ref t0, .ref t1, .ref t2]) := upd_same
    generalize upd H2 l0 (.lst [.ref t0, .ref t1, .ref t2]) = G0 at r0 T0 c0 ⊢
    refine asg_of ?_
    refine ⟨_, rfl, ?_⟩
    refine lst_of ?_
    refine cons_of (rd_pair T rfl (hX.same T0) hi (by decide) fun t3 H3 s3 e3 => ?_)
    have S3 := Same.trans T0 s3
    refine cons_of (rd_pair T rfl (hX.same S3) hi (by decide) fun t4 H4 s4 e4 => ?_)
    have S4 := Same.trans S3 s4
    refine cons_of (rd_pair T rfl (hX.same S4) hi (by decide) fun t5 H5 s5 e5 => ?_)
    have S5 := Same.trans S4 s5
    have c0x : H5 l0 = some (.lst [.ref t0, .ref t1, .ref t2]) := ((s3.trans s4).trans s5) _ _ c0
    refine ⟨by show 3 ≤ sizeLine; decide, fun m1 hm1 => ?_⟩
    have rm1 : Same H5 (upd H5 m1 (.lst [.ref t3, .ref t4, .ref t5])) := Same.new (Same.refl _) hm1
    refine ⟨_, _, _, _, rfl, rfl, rm1 _ _ c0x, upd_same, by show 6 ≤ sizeLine; decide, fun l1 hl1 => ?_⟩
    have r1 : Same H5 (upd (upd H5 m1 (.lst [.ref t3, .ref t4, .ref t5])) l1 (.lst [.ref t0, .ref t1, .ref t2, .ref t3, .ref t4, .ref t5])) := Same.new rm1 hl1
    have T1 := Same.trans S5 r1
    have c1 : (upd (upd H5 m1 (.lst [.ref t3, .ref t4, .ref t5])) l1 (.lst [.ref t0, .ref t1, .ref t2, .ref t3, .ref t4, .ref t5])) l1 = some (.lst [.ref t0, .ref t1, .ref t2, .ref t3, .ref t4, .ref t5]) := upd_same
    change tSeq _ _ _ _ (upd (upd H5 m1 (.lst [.ref t3, .ref t4, .ref t5])) l1 (.lst [.ref t0, .ref t1, .ref t2, .ref t3, .ref t4, .ref t5]))
    generalize upd (upd H5 m1 (.lst [.ref t3, .ref t4, .ref t5])) l1 (.lst [.ref t0, .ref t1, .ref t2, .ref t3, .ref t4, .ref t5]) = G1 at r1 T1 c1 ⊢
    refine asg_of ?_
    refine ⟨_, rfl, ?_⟩
    refine lst_of ?_
    refine cons_of (rd_pair T rfl (hX.same T1) hi (by decide) fun t6 H6 s6 e6 => ?_)
    have S6 := Same.trans T1 s6
    refine cons_of (rd_pair T rfl (hX.same S6) hi (by decide) fun t7 H7 s7 e7 => ?_)
    have S7 := Same.trans S6 s7
    have c1x : H7 l1 = some (.lst [.ref t0, .ref t1, .ref t2, .ref t3, .ref t4, .ref t5]) := (s6.trans s7) _ _ c1
    refine ⟨by show 2 ≤ sizeLine; decide, fun m2 hm2 => ?_⟩
    have rm2 : Same H7 (upd H7 m2 (.lst [.ref t6, .ref t7])) := Same.new (Same.refl _) hm2
    refine ⟨_, _, _, _, rfl, rfl, rm2 _ _ c1x, upd_same, by show 8 ≤ sizeLine; decide, fun l2 hl2 => ?_⟩
    have r2 : Same H7 (upd (upd H7 m2 (.lst [.ref t6, .ref t7])) l2 (.lst [.ref t0, .ref t1, .ref t2, .ref t3, .ref t4, .ref t5, .ref t6, .ref t7])) := Same.new rm2 hl2
    have T2 := Same.trans S7 r2
    have c2 : (upd (upd H7 m2 (.lst [.ref t6, .ref t7])) l2 (.lst [.ref t0, .ref t1, .ref t2, .ref t3, .ref t4, .ref t5, .ref t6, .ref t7])) l2 = some (.lst [.ref t0, .ref t1, .ref t2, .ref t3, .ref t4, .ref t5, .ref t6, .ref t7]) := upd_same
    change tSeq _ _ _ _ (upd (upd H7 m2 (.lst [.ref t6, .ref t7])) l2 (.lst [.ref t0, .ref t1, .ref t2, .ref t3, .ref t4, .ref t5, .ref t6, .ref t7]))
    generalize upd (upd H7 m2 (.lst [.ref t6, .ref t7])) l2 (.lst [.ref t0, .ref t1, .ref t2, .ref t3, .ref t4, .ref t5, .ref t6, .ref t7]) = G2 at r2 T2 c2 ⊢
    refine asg_of ?_
    refine ⟨_, rfl, ?_⟩
    refine lst_of ?_
    refine cons_of (rd_pair T rfl (hX.same T2) hi (by decide) fun t8 H8 s8 e8 => ?_)
    have S8 := Same.trans T2 s8
    refine cons_of (rd_pair T rfl (hX.same S8) hi (by decide) fun t9 H9 s9 e9 => ?_)
    have S9 := Same.trans S8 s9
    have c2x : H9 l2 = some (.lst [.ref t0, .ref t1, .ref t2, .ref t3, .ref t4, .ref t5, .ref t6, .ref t7]) := (s8.trans s9) _ _ c2
    refine ⟨by show 2 ≤ sizeLine; decide, fun m3 hm3 => ?_⟩
    have rm3 : Same H9 (upd H9 m3 (.lst [.ref t8, .ref t9])) := Same.new (Same.refl _) hm3
    refine ⟨_, _, _, _, rfl, rfl, rm3 _ _ c2x, upd_same, by show 10 ≤ sizeLine; decide, fun l3 hl3 => ?_⟩
    have r3 : Same H9 (upd (upd H9 m3 (.lst [.ref t8, .ref t9])) l3 (.lst [.ref t0, .ref t1, .ref t2, .ref t3, .ref t4, .ref t5, .ref t6, .ref t7, .ref t8, .ref t9])) := Same.new rm3 hl3
    have T3 := Same.trans S9 r3
    have c3 : (upd (upd H9 m3 (.lst [.ref t8, .ref t9])) l3 (.lst [.ref t0, .ref t1, .ref t2, .ref t3, .ref t4, .ref t5, .ref t6, .ref t7, .ref t8, .ref t9])) l3 = some (.lst [.ref t0, .ref t1, .ref t2, .ref t3, .ref t4, .ref t5, .ref t6, .ref t7, .ref t8, .ref t9]) := upd_same
    change tSeq _ _ _ _ (upd (upd H9 m3 (.lst [.ref t8, .ref t9])) l3 (.lst [.ref t0, .ref t1, .ref t2, .ref t3, .ref t4, .ref t5, .ref t6, .ref t7, .ref t8, .ref t9]))
    generalize upd (upd H9 m3 (.lst [.ref t8, .ref t9])) l3 (.lst [.ref t0, .ref t1, .ref t2, .ref t3, .ref t4, .ref t5, .ref t6, .ref t7, .ref t8, .ref t9]) = G3 at r3 T3 c3 ⊢
    refine asg_of (lst_of (cons_of (rd_isB T rfl (hX.same T3) hi (k := 0) (by decide) (cons_of (rd_isB T rfl (hX.same T3) hi (k := 1) (by decide) (cons_of (rd_isB T rfl (hX.same T3) hi (k := 2) (by decide) (cons_of (rd_isB T rfl (hX.same T3) hi (k := 3) (by decide) ⟨by show 4 ≤ sizeLine; decide, fun o1 ho1 => ?_⟩)))))))))
    have r4 : Same G3 (upd G3 o1 (.lst [.bl (own i 0), .bl (own i 1), .bl (own i 2), .bl (own i 3)])) := Same.new (Same.refl _) ho1
    have X4 := hX.same (Same.trans T3 r4)
    refine asg_of ⟨_, rfl, lst_of (cons_of (rd_isB T rfl X4 hi (k := 4) (by decide) (cons_of (rd_isB T rfl X4 hi (k := 5) (by decide) (cons_of (rd_isB T rfl X4 hi (k := 6) (by decide) ⟨by show 3 ≤ sizeLine; decide, fun o2 ho2 => ?_⟩))))))⟩
    have r5 : Same (upd G3 o1 (.lst [.bl (own i 0), .bl (own i 1), .bl (own i 2), .bl (own i 3)])) (upd (upd G3 o1 (.lst [.bl (own i 0), .bl (own i 1), .bl (own i 2), .bl (own i 3)])) o2 (.lst [.bl (own i 4), .bl (own i 5), .bl (own i 6)])) := Same.new (Same.refl _) ho2
    refine ⟨_, _, _, _, rfl, rfl, r5 _ _ upd_same, upd_same, by show 7 ≤ sizeLine; decide, fun lo hlo => ?_⟩
    have r6 : Same G3 (upd (upd (upd G3 o1 (.lst [.bl (own i 0), .bl (own i 1), .bl (own i 2), .bl (own i 3)])) o2 (.lst [.bl (own i 4), .bl (own i 5), .bl (own i 6)])) lo (.lst [.bl (own i 0), .bl (own i 1), .bl (own i 2), .bl (own i 3), .bl (own i 4), .bl (own i 5), .bl (own i 6)])) := Same.new (r4.trans r5) hlo
    have c6 : (upd (upd (upd G3 o1 (.lst [.bl (own i 0), .bl (own i 1), .bl (own i 2), .bl (own i 3)])) o2 (.lst [.bl (own i 4), .bl (own i 5), .bl (own i 6)])) lo (.lst [.bl (own i 0), .bl (own i 1), .bl (own i 2), .bl (own i 3), .bl (own i 4), .bl (own i 5), .bl (own i 6)])) lo = some (.lst [.bl (own i 0), .bl (own i 1), .bl (own i 2), .bl (own i 3), .bl (own i 4), .bl (own i 5), .bl (own i 6)]) := upd_same
    change tRet _ _ _ (upd (upd (upd G3 o1 (.lst [.bl (own i 0), .bl (own i 1), .bl (own i 2), .bl (own i 3)])) o2 (.lst [.bl (own i 4), .bl (own i 5), .bl (own i 6)])) lo (.lst [.bl (own i 0), .bl (own i 1), .bl (own i 2), .bl (own i 3), .bl (own i 4), .bl (own i 5), .bl (own i 6)]))
    generalize upd (upd (upd G3 o1 (.lst [.bl (own i 0), .bl (own i 1), .bl (own i 2), .bl (own i 3)])) o2 (.lst [.bl (own i 4), .bl (own i 5), .bl (own i 6)])) lo (.lst [.bl (own i 0), .bl (own i 1), .bl (own i 2), .bl (own i 3), .bl (own i 4), .bl (own i 5), .bl (own i 6)]) = G at r6 c6 ⊢
    have S7 := Same.trans T3 r6
    have c7 := r6 _ _ c3
    have z_G := Same.refl G
    have z_G3 := Same.trans r6 z_G
    have z_H9 := Same.trans r3 z_G3
    have z_H8 := Same.trans s9 z_H9
    have z_G2 := Same.trans s8 z_H8
    have z_H7 := Same.trans r2 z_G2
    have z_H6 := Same.trans s7 z_H7
    have z_G1 := Same.trans s6 z_H6
    have z_H5 := Same.trans r1 z_G1
    have z_H4 := Same.trans s5 z_H5
    have z_H3 := Same.trans s4 z_H4
    have z_G0 := Same.trans s3 z_H3
    have z_H2 := Same.trans r0 z_G0
    have z_H1 := Same.trans s2 z_H2
    have z_H0 := Same.trans s1 z_H1
    have f0 := z_H0 _ _ e0
    have f1 := z_H1 _ _ e1
    have f2 := z_H2 _ _ e2
    have f3 := z_H3 _ _ e3
    have f4 := z_H4 _ _ e4
    have f5 := z_H5 _ _ e5
    have f6 := z_H6 _ _ e6
    have f7 := z_H7 _ _ e7
    have f8 := z_H8 _ _ e8
    have f9 := z_H9 _ _ e9
    have hT : ∀ (n : Nat) (x : V), ([.ref t0, .ref t1, .ref t2, .ref t3, .ref t4, .ref t5, .ref t6, .ref t7, .ref t8, .ref t9] : List V)[n]? = some x → ∃ t u b, x = .ref t ∧ (prs i)[n]? = some (u, b) ∧ G t = some (.tup [.str u, .bl b]) := by
      intro n x hx
      match n, hx with
      | 0, hx => exact ⟨t0, _, _, (Option.some.inj hx).symm, rfl, f0⟩
      | 1, hx => exact ⟨t1, _, _, (Option.some.inj hx).symm, rfl, f1⟩
      | 2, hx => exact ⟨t2, _, _, (Option.some.inj hx).symm, rfl, f2⟩
      | 3, hx => exact ⟨t3, _, _, (Option.some.inj hx).symm, rfl, f3⟩
      | 4, hx => exact ⟨t4, _, _, (Option.some.inj hx).symm, rfl, f4⟩
      | 5, hx => exact ⟨t5, _, _, (Option.some.inj hx).symm, rfl, f5⟩
      | 6, hx => exact ⟨t6, _, _, (Option.some.inj hx).symm, rfl, f6⟩
      | 7, hx => exact ⟨t7, _, _, (Option.some.inj hx).symm, rfl, f7⟩
      | 8, hx => exact ⟨t8, _, _, (Option.some.inj hx).symm, rfl, f8⟩
      | 9, hx => exact ⟨t9, _, _, (Option.some.inj hx).symm, rfl, f9⟩
      | n + 10, hx => exact absurd hx (by simp)
    refine ⟨_, rfl, _, rfl, ⟨_, SqL.of c7⟩, fun D hD => ?_⟩
    refine lc_list (K := K) (xs := [.ref t0, .ref t1, .ref t2, .ref t3, .ref t4, .ref t5, .ref t6, .ref t7, .ref t8, .ref t9]) (fun n H' => Same G H' ∧ H' D = some (.lst ((sel ((prs i).take n)).map V.str))) ⟨Same.new (Same.refl _) hD, upd_same⟩ (fun n H' _ p => SqL.of (p.1 _ _ c7)) (fun n x H' hx p => ?_) (fun H' p => ?_)
    · obtain ⟨t, u, b, rfl, hp, ht⟩ := hT n x hx
      obtain ⟨p1, p2⟩ := p
      have tk : (prs i).take (n + 1) = (prs i).take n ++ [(u, b)] := by
        rw [List.take_succ, hp]; rfl
      have nDt : t ≠ D := ne_of_none ht hD
      refine ⟨t, _, rfl, SqT.of (p1 _ _ ht), rfl, _, _, rfl, _, _, rfl, rfl, rfl, _, rfl, b, rfl, ?_⟩
      cases b with
      | true =>
        refine iteT ⟨_, rfl, _, p2, ?_, ?_⟩
        · rw [List.length_map]
          have h1 : (sel ((prs i).take n)).length ≤ 10 := by
            unfold sel
            rw [List.length_map]
            exact Nat.le_trans (List.length_filter_le _ _) (Nat.le_trans (List.length_take_le' _ _) (by show 10 ≤ 10; decide))
          exact Nat.lt_of_le_of_lt h1 (by decide)
        · refine ⟨fun c o e => ?_, ?_⟩
          · rw [upd_ne (ne_of_none e hD)]; exact p1 c o e
          · rw [upd_same, tk]
            simp [sel]
      | false =>
        refine iteF ⟨p1, ?_⟩
        rw [tk, p2]
        simp [sel]
    · obtain ⟨p1, p2⟩ := p
      refine ⟨_, rfl, by show 2 ≤ sizeLine; decide, fun t ht => ?_⟩
      have s8 : Same H' (upd H' t (.tup [.ref D, .ref lo])) := Same.new (Same.refl _) ht
      have e8 : (upd H' t (.tup [.ref D, .ref lo])) D = some (.lst ((sel ((prs i).take 10)).map V.str)) := s8 _ _ p2
      have e9 := s8 _ _ (p1 _ _ c6)
      rw [show (prs i).take 10 = prs i from rfl, sel_all i hi] at e8
      rw [own_all i hi] at e9
      exact k t D lo _ ((S7.trans p1).trans s8) upd_same e8 e9
end
end My

set_option Elab.async false
set_option linter.all false
set_option maxRecDepth 100000
set_option maxHeartbeats 4000000
namespace My
open PySem L2
section
variable {P : Program} {w : World} {K : PySem.W.Frag} {mg : Str → Option Value} {base : Heap} {CS : Nat → Addr}
abbrev sLaw : Stmt := top 17
def spLaw (K : PySem.W.Frag) : Sp := fun vs H Q _ => ∃ (a : Addr) (ns : List Int), vs = [.ref a] ∧ SqL K H a (ns.map V.int) ∧ ∀ H', Q (.bl true) H'
theorem scLaw : FnScope ["_law_script", "_law_held", "_law_words", "_law_spots", "_law_turn", "_law_number", "_law_some", "_law_it", "_law_by_name", "_law_e", "_law_found", "_law_own", "_law_k"] ["_law_script"] (defScope sLaw) :=
  ⟨rfl, rfl, rfl, by decide +kernel, rfl, by decide +kernel, by decide +kernel⟩
def wds : List Str := ["text", "row", "script", "many", "loop", "promise", "mark", "rank", "busy", "undone"]
def spots : Nat → List Int
  | 0 => [0] | 1 => [0] | 2 => [0] | 3 => [0] | 4 => [1, 3] | 5 => [1, 3] | 6 => [1, 3] | 7 => [2, 3] | 8 => [4] | _ => [3]
theorem split_wds : Txt.split "text row script many loop promise mark rank busy undone" " " = wds := by decide +kernel
theorem wds_at (i : Nat) (hi : i < 10) : wds[i]? = some (wd i) := by
  match i, hi with
  | 0, _ => rfl
  | 1, _ => rfl
  | 2, _ => rfl
  | 3, _ => rfl
  | 4, _ => rfl
  | 5, _ => rfl
  | 6, _ => rfl
  | 7, _ => rfl
  | 8, _ => rfl
  | 9, _ => rfl
/-- what the law keeps while it goes on -/
structure Hold (H : Hp) (d l : Addr) (ms : List Int) (n L : Int) (lw lp : Addr) (ts : List Addr) : Prop where
  pen : Pen H d l ms n L
  wds : H lw = some (.lst (My.wds.map V.str))
  sp : H lp = some (.lst (ts.map V.ref))
  tup : ∀ k t, ts[k]? = some t → H t = some (.tup ((spots k).map V.int))
  len : ts.length = 10
theorem Hold.draw {H H' : Hp} {d l : Addr} {ms : List Int} {n L n' L' : Int} {lw lp : Addr} {ts : List Addr} (h : Hold H d l ms n L lw lp ts) (p : Pen H' d l ms n' L') (k : ∀ c o, H c = some o → c ≠ d → H' c = some o) : Hold H' d l ms n' L' lw lp ts :=
  ⟨p, k _ _ h.wds (ne_of h.wds h.pen.dc (by intro z; cases z)), k _ _ h.sp (ne_of h.sp h.pen.dc (by intro z; cases z)), fun i t e => k _ _ (h.tup i t e) (ne_of (h.tup i t e) h.pen.dc (by intro z; cases z)), h.len⟩
theorem Hold.same {H H' : Hp} {d l : Addr} {ms : List Int} {n L : Int} {lw lp : Addr} {ts : List Addr} (h : Hold H d l ms n L lw lp ts) (s : Same H H') : Hold H' d l ms n L lw lp ts :=
  ⟨⟨s _ _ h.pen.dc, s _ _ h.pen.ls, h.pen.n0, h.pen.l0⟩, s _ _ h.wds, s _ _ h.sp, fun i t e => s _ _ (h.tup i t e), h.len⟩
theorem MadeAt.same {H H' : Hp} {a : Addr} {i : Nat} {v : V} (m : MadeAt CS H a i v) (s : Same H H') : MadeAt CS H' a i v := by
  rcases m with ⟨h, x⟩ | ⟨h, x⟩ | ⟨h, m, x, y⟩
  · exact .inl ⟨h, x.same s⟩
  · exact .inr (.inl ⟨h, x.same s⟩)
  · exact .inr (.inr ⟨h, m, x.same s, y.same s⟩)
/-- the things that are drawn from -/
def things (r : Int) : List V := [.str "a", .str "work", .int 0, .int 7, .int r, .str "zz", .int 1, .int 400]
def selN (i : Nat) : Nat → List Int
  | 0 => []
  | n + 1 => if own i n = true then selN i n ++ [(n : Int)] else selN i n
theorem selN_all (i : Nat) (hi : i < 10) : selN i 7 = spots i := by
  match i, hi with
  | 0, _ => rfl
  | 1, _ => rfl
  | 2, _ => rfl
  | 3, _ => rfl
  | 4, _ => rfl
  | 5, _ => rfl
  | 6, _ => rfl
  | 7, _ => rfl
  | 8, _ => rfl
  | 9, _ => rfl
theorem selN_len (i : Nat) : ∀ n, (selN i n).length ≤ n
  | 0 => Nat.le_refl _
  | n + 1 => by
    have h := selN_len i n
    unfold selN
    split
    · rw [List.length_append]; show _ + 1 ≤ _; omega
    · omega
theorem ownB_len (i : Nat) : (ownB i).length = 7 := by
  unfold ownB
  split <;> rfl
theorem ownB_at (i n : Nat) (hn : n < 7) : ((ownB i).map V.bl)[n]? = some (.bl (own i n)) := by
  have h : n < (ownB i).length := by rw [ownB_len]; exact hn
  unfold own
  rw [List.getElem?_map, List.getD_eq_getElem?_getD, List.getElem?_eq_getElem h]
  rfl
theorem eqv_ints : ∀ ms : List Int, PyData.eqvAll (ms.map PyData.int) (ms.map PyData.int) = true
  | [] => rfl
  | i :: r => by simp [PyData.eqvAll, PyData.eqv, eqv_ints r]
theorem nx_of {a b : TS} {D : Ends} {r : VK} {k c : L2.St → Hp → Prop} {σ : L2.St} {H : Hp} (h : tSeq a b D σ H) : Ends.nx { nx := tSeq a b D, rt := r, bk := k, ct := c } σ H := h
theorem shaped_wd (i : Nat) (hi : i < 10) : SeqAt.shaped (.list [.str (wd i)]) = true := by
  match i, hi with
  | 0, _ => decide +kernel
  | 1, _ => decide +kernel
  | 2, _ => decide +kernel
  | 3, _ => decide +kernel
  | 4, _ => decide +kernel
  | 5, _ => decide +kernel
  | 6, _ => decide +kernel
  | 7, _ => decide +kernel
  | 8, _ => decide +kernel
  | 9, _ => decide +kernel
theorem rd_t1 {σ : L2.St} {H : Hp} {Q : VK} {x : Int} (h : ∀ t H', Same H H' → H' t = some (.tup [.int x]) → Q (.ref t) H') : tTup (tCons (tC (.int x)) tNil) σ H Q :=
  ⟨by show 1 ≤ sizeLine; decide, fun t ht => h t _ (Same.new (Same.refl _) ht) upd_same⟩
theorem rd_t2 {σ : L2.St} {H : Hp} {Q : VK} {x y : Int} (h : ∀ t H', Same H H' → H' t = some (.tup [.int x, .int y]) → Q (.ref t) H') : tTup (tCons (tC (.int x)) (tCons (tC (.int y)) tNil)) σ H Q :=
  ⟨by show 2 ≤ sizeLine; decide, fun t ht => h t _ (Same.new (Same.refl _) ht) upd_same⟩
theorem things_rp (r : Int) (h0 : 0 ≤ r) (h1 : r < 1000000) (k : Nat) (hk : k < 8) : ∃ v z, (things r)[k]? = some v ∧ Rp v z := by
  have hr : r.natAbs.log2 < 1920 := by
    have h2 : r.natAbs < 2 ^ 1920 := Nat.lt_of_lt_of_le (show r.natAbs < 2 ^ 20 by omega) (Nat.pow_le_pow_right (by decide) (by decide))
    by_cases h3 : r.natAbs = 0
    · rw [h3]; decide
    · exact (Nat.log2_lt h3).mpr h2
  match k, hk with
  | 0, _ => exact ⟨_, _, rfl, .str _ (by decide +kernel)⟩
  | 1, _ => exact ⟨_, _, rfl, .str _ (by decide +kernel)⟩
  | 2, _ => exact ⟨_, _, rfl, .int _ (by decide +kernel)⟩
  | 3, _ => exact ⟨_, _, rfl, .int _ (by decide +kernel)⟩
  | 4, _ => exact ⟨_, _, rfl, .int _ hr⟩
  | 5, _ => exact ⟨_, _, rfl, .str _ (by decide +kernel)⟩
  | 6, _ => exact ⟨_, _, rfl, .int _ (by decide +kernel)⟩
  | 7, _ => exact ⟨_, _, rfl, .int _ (by decide +kernel)⟩

theorem ok_law {f fP fD fM fK fF : Addr} {fd dP dD dM dK dF : FuncData} (F : Fun K "law" "law" sLaw f fd) (T : CT K mg CS)
    (GP : FnOk P w K mg base CX0 1 fP dP ["_law_script"] (spPen K)) (mP : mg "_law_pen" = some (.ref fP)) (kP : PySem.W.keepIn K (.ref fP) = true) (bP : Binds K dP ["_law_script"] [])
    (GD : FnOk P w K mg base CX0 1 fD dD ["_law_held", "_law_many"] spDraw) (mD : mg "_law_draw" = some (.ref fD)) (kD : PySem.W.keepIn K (.ref fD) = true) (bD : Binds K dD ["_law_held", "_law_many"] [])
    (GM : FnOk P w K mg base CX0 3 fM dM ["_law_number", "_law_it", "_law_by_name"] (spMade CS)) (mM : mg "_law_made" = some (.ref fM)) (kM : PySem.W.keepIn K (.ref fM) = true) (bM : Binds K dM ["_law_number", "_law_it", "_law_by_name"] [])
    (GK : FnOk P w K mg base CX0 1 fK dK ["_law_e"] (spKinds CS)) (mK : mg "_law_kinds" = some (.ref fK)) (kK : PySem.W.keepIn K (.ref fK) = true) (bK : Binds K dK ["_law_e"] [])
    (GF : FnOk P w K mg base CX0 1 fF dF ["_law_e"] (spField CS)) (mF : mg "_law_field_of" = some (.ref fF)) (kF : PySem.W.keepIn K (.ref fF) = true) (bF : Binds K dF ["_law_e"] [])
    (mR : mg "range" = none) (mL : mg "list" = none) (mRp : mg "repr" = none) : FnOk P w K mg base CX0 4 f fd ["_law_script"] (spLaw K) := by
  refine F.ok scLaw (fun vs H Q E h => ?_) (fun cdv A outer s H vs Q E hr h => ?_)
  · obtain ⟨a, ns, rfl, _⟩ := h
    rfl
  · obtain ⟨a, ns, rfl, hS, k⟩ := h
    have nd := scLaw.nd
    have hr1 : Room 1 _ := hr.mono (by decide)
    refine ⟨_, pss_cons (ps_set (i := 1) nd rfl (Or.inl rfl) (pe_call GP hr1 rfl mP kP bP .nil pass0 (pa_cons (pv 0) pa_nil)))
      (pss_cons (ps_set (i := 2) nd rfl (Or.inl rfl) (pe_split pe_str pe_str))
      (pss_cons (ps_set (i := 3) nd rfl (Or.inl rfl) (pe_lst (pa_cons (pe_tup (pa_cons pe_int pa_nil)) (pa_cons (pe_tup (pa_cons pe_int pa_nil)) (pa_cons (pe_tup (pa_cons pe_int pa_nil)) (pa_cons (pe_tup (pa_cons pe_int pa_nil)) (pa_cons (pe_tup (pa_cons pe_int (pa_cons pe_int pa_nil))) (pa_cons (pe_tup (pa_cons pe_int (pa_cons pe_int pa_nil))) (pa_cons (pe_tup (pa_cons pe_int (pa_cons pe_int pa_nil))) (pa_cons (pe_tup (pa_cons pe_int (pa_cons pe_int pa_nil))) (pa_cons (pe_tup (pa_cons pe_int pa_nil)) (pa_cons (pe_tup (pa_cons pe_int pa_nil)) pa_nil))))))))))))
      (pss_cons (ps_for PassesOwn.never rfl (pi_range1 rfl mR (pa_cons pe_int pa_nil)) (pg_name (i := 4) nd rfl (Or.inl rfl)) (pss_one (ps_for PassesOwn.never rfl (pi_range1 rfl mR (pa_cons pe_int pa_nil)) (pg_name (i := 5) nd rfl (Or.inl rfl))
        (pss_cons (ps_set (i := 6) nd rfl (Or.inl rfl) (pe_lst (pa_cons pe_str (pa_cons pe_str (pa_cons pe_int (pa_cons pe_int (pa_cons (pe_call GD hr1 rfl mD kD bD .nil pass0 (pa_cons (pv 1) (pa_cons (pe_op op_pow pe_int pe_int) pa_nil))) (pa_cons pe_str (pa_cons pe_int (pa_cons pe_int pa_nil))))))))))
        (pss_cons (ps_par (by rfl) nd (i := 7) (j := 8) rfl rfl (by decide) rfl rfl (pa_cons (pe_ix ix_list (pv 6) (pe_call GD hr1 rfl mD kD bD .nil pass0 (pa_cons (pv 1) (pa_cons pe_int pa_nil))) (fun _ _ => rfl)) (pa_cons (pe_cmpR op_eq (pe_call GD hr1 rfl mD kD bD .nil pass0 (pa_cons (pv 1) (pa_cons pe_int pa_nil))) pe_int (nomark _)) pa_nil)) (by rfl))
        (pss_cons (ps_set (i := 9) nd rfl (Or.inl rfl) (pe_call GM hr rfl mM kM bM .nil pass0 (pa_cons (pv 5) (pa_cons (pv 7) (pa_cons (pv 8) pa_nil)))))
        (pss_cons (ps_asg (pe_call GK hr1 rfl mK kK bK .nil pass0 (pa_cons (pv 9) pa_nil)) (pg_tup (by rfl) (pgs_cons (pg_name (i := 10) nd rfl (Or.inl rfl)) (pgs_cons (pg_name (i := 11) nd rfl (Or.inr rfl)) pgs_nil))))
        (pss_cons (ps_if (PW.pt (pw_or (pt_cmpR (op_neD hr.units) (pv 10) (pe_lst (pa_cons (pe_ix ix_list (pv 2) (pv 5) (fun _ _ => rfl)) pa_nil)) (nomark _))
          (pw_or1 (pt_cmpR (op_neD hr.units) (pe_lc (own := [("_law_k", 12)]) (g := gName 12) (tt := tB (tOp (rIxL K) (tVar 11) (tVar 12))) rfl nd (pi_range1 rfl mR (pa_cons pe_int pa_nil)) (blkOk_by (N := ["_law_script", "_law_held", "_law_words", "_law_spots", "_law_turn", "_law_number", "_law_some", "_law_it", "_law_by_name", "_law_e", "_law_found", "_law_own", "_law_k"]) (sc := defScope sLaw) (by decide +kernel))
            (fun _ _ _ _ _ => pg_name (i := 12) nd rfl (Or.inl rfl) (Or.inr rfl)) (fun _ _ _ _ _ => pts_one (pt_val (pe_ix ix_list (pv 11) (pv 12) (fun _ _ => rfl)))) (fun _ _ _ _ _ => pv 12)) (pe_callTy call_list_of (by rfl) mL (by decide +kernel) (pa_cons (pe_ix ix_list (pv 3) (pv 5) (fun _ _ => rfl)) pa_nil)) (nomark _))))) (pss_one (ps_ret pe_bl)) pss_nil)
        (pss_cons (ps_if (pt_cmpR op_ne (pe_callB call_rp (by rfl) mRp (by decide +kernel) (pa_cons (pe_call GF hr1 rfl mF kF bF .nil pass0 (pa_cons (pv 9) pa_nil)) pa_nil))
          (pe_callB call_rp (by rfl) mRp (by decide +kernel) (pa_cons (pe_ifExp (pt_cmpR op_ne (pv 5) pe_int (nomark _)) (pv 7) pe_non) pa_nil)) (nomark _)) (pss_one (ps_ret pe_bl)) pss_nil)
        (pss_one (ps_if (PW.pt (pw_and (pt_cmpR op_eq (pv 5) pe_int (nomark _)) (pw_and1 (PW.pt (pw_or (pt_not (pt_val (pe_callB call_isX (by rfl) T.isi (by decide +kernel) (pa_cons (pe_xget (pv 9)) (pa_cons (pe_glob (by rfl) (T.mgC 6 (by decide)) (show RelV (.ref (CS 6)) _ from rfl)) pa_nil)))))
          (pw_or1 (pt_cmpR op_ne (pe_xget (pe_xget (pv 9))) pe_str (nomark _)))))))) (pss_one (ps_ret pe_bl)) pss_nil)))))))))))
      (pss_one (ps_ret pe_bl))))), ?_⟩
    refine asg_of ⟨_, rfl, a, ns, rfl, hS, fun d l ms H1 hd hl s1 p1 => ?_⟩
    refine asg_of ⟨⟨_, rfl⟩, _, _, rfl, rfl, by decide +kernel, by decide +kernel, fun lw hlw => ?_⟩
    rw [split_wds]
    have sw : Same H1 (upd H1 lw (.lst (wds.map V.str))) := Same.new (Same.refl _) hlw
    have cw : (upd H1 lw (.lst (wds.map V.str))) lw = some (.lst (wds.map V.str)) := upd_same
    change tSeq _ _ _ _ (upd H1 lw (.lst (wds.map V.str)))
    generalize upd H1 lw (.lst (wds.map V.str)) = J at sw cw ⊢
    refine asg_of (lst_of ?_)
    refine cons_of (rd_t1 fun t0 J0 s0 e0 => ?_)
    refine cons_of (rd_t1 fun t1 J1 s1 e1 => ?_)
    refine cons_of (rd_t1 fun t2 J2 s2 e2 => ?_)
    refine cons_of (rd_t1 fun t3 J3 s3 e3 => ?_)
    refine cons_of (rd_t2 fun t4 J4 s4 e4 => ?_)
    refine cons_of (rd_t2 fun t5 J5 s5 e5 => ?_)
    refine cons_of (rd_t2 fun t6 J6 s6 e6 => ?_)
    refine cons_of (rd_t2 fun t7 J7 s7 e7 => ?_)
    refine cons_of (rd_t1 fun t8 J8 s8 e8 => ?_)
    refine cons_of (rd_t1 fun t9 J9 s9 e9 => ?_)
    refine ⟨by show 10 ≤ sizeLine; decide, fun lp hlp => ?_⟩
    have sl : Same J9 (upd J9 lp (.lst [.ref t0, .ref t1, .ref t2, .ref t3, .ref t4, .ref t5, .ref t6, .ref t7, .ref t8, .ref t9])) := Same.new (Same.refl _) hlp
    have cl : (upd J9 lp (.lst [.ref t0, .ref t1, .ref t2, .ref t3, .ref t4, .ref t5, .ref t6, .ref t7, .ref t8, .ref t9])) lp = some (.lst [.ref t0, .ref t1, .ref t2, .ref t3, .ref t4, .ref t5, .ref t6, .ref t7, .ref t8, .ref t9]) := upd_same
    change tSeq _ _ _ _ (upd J9 lp (.lst [.ref t0, .ref t1, .ref t2, .ref t3, .ref t4, .ref t5, .ref t6, .ref t7, .ref t8, .ref t9]))
    generalize upd J9 lp (.lst [.ref t0, .ref t1, .ref t2, .ref t3, .ref t4, .ref t5, .ref t6, .ref t7, .ref t8, .ref t9]) = G at sl cl ⊢
    have z9 := sl
    have z8 := Same.trans s9 z9
    have z7 := Same.trans s8 z8
    have z6 := Same.trans s7 z7
    have z5 := Same.trans s6 z6
    have z4 := Same.trans s5 z5
    have z3 := Same.trans s4 z4
    have z2 := Same.trans s3 z3
    have z1 := Same.trans s2 z2
    have z0 := Same.trans s1 z1
    have zJ := Same.trans s0 z0
    have f0 := z0 _ _ e0
    have f1 := z1 _ _ e1
    have f2 := z2 _ _ e2
    have f3 := z3 _ _ e3
    have f4 := z4 _ _ e4
    have f5 := z5 _ _ e5
    have f6 := z6 _ _ e6
    have f7 := z7 _ _ e7
    have f8 := z8 _ _ e8
    have f9 := z9 _ _ e9
    have hold : Hold G d l ms 0 0 lw lp [t0, t1, t2, t3, t4, t5, t6, t7, t8, t9] := by
      refine ⟨⟨(sw.trans zJ) _ _ p1.dc, (sw.trans zJ) _ _ p1.ls, Int.le_refl _, Int.le_refl _⟩, zJ _ _ cw, cl, ?_, rfl⟩
      intro n t ht
      match n, ht with
      | 0, ht => exact (Option.some.inj ht) ▸ f0
      | 1, ht => exact (Option.some.inj ht) ▸ f1
      | 2, ht => exact (Option.some.inj ht) ▸ f2
      | 3, ht => exact (Option.some.inj ht) ▸ f3
      | 4, ht => exact (Option.some.inj ht) ▸ f4
      | 5, ht => exact (Option.some.inj ht) ▸ f5
      | 6, ht => exact (Option.some.inj ht) ▸ f6
      | 7, ht => exact (Option.some.inj ht) ▸ f7
      | 8, ht => exact (Option.some.inj ht) ▸ f8
      | 9, ht => exact (Option.some.inj ht) ▸ f9
      | n + 10, ht => exact absurd ht (by simp)
    refine ⟨6, rfl, by decide, by decide, for_range (lo := 0) (n := 6) (fun n σ H2 => ∃ (nn L : Int) (x4 x5 x6 x7 x8 x9 x10 x11 x12 : Option V),
      σ = [some (.ref a), some (.ref d), some (.ref lw), some (.ref lp), x4, x5, x6, x7, x8, x9, x10, x11, x12] ∧ Hold H2 d l ms nn L lw lp [t0, t1, t2, t3, t4, t5, t6, t7, t8, t9] ∧ nn ≤ 30 * (n : Int)) ?_ ?_ ?_⟩
    · exact ⟨0, 0, _, _, _, _, _, _, _, _, _, rfl, hold, by decide⟩
    · rintro n σ H2 hn ⟨nn, L, x4, x5, x6, x7, x8, x9, x10, x11, x12, rfl, hold, hb⟩
      refine ⟨10, rfl, by decide, by decide, for_range (lo := 0) (n := 10) (fun j σ H3 => ∃ (nn L : Int) (x4 x5 x6 x7 x8 x9 x10 x11 x12 : Option V),
        σ = [some (.ref a), some (.ref d), some (.ref lw), some (.ref lp), x4, x5, x6, x7, x8, x9, x10, x11, x12] ∧ Hold H3 d l ms nn L lw lp [t0, t1, t2, t3, t4, t5, t6, t7, t8, t9] ∧ nn ≤ 30 * (n : Int) + 3 * (j : Int)) ?_ ?_ ?_⟩
      · exact ⟨nn, L, _, _, _, _, _, _, _, _, _, rfl, hold, by omega⟩
      · rintro j σ H3 hj ⟨nn, L, x4, x5, x6, x7, x8, x9, x10, x11, x12, rfl, hold, hb⟩
        rw [Int.zero_add]
        refine asg_of (lst_of ?_)
        refine ⟨_, rfl, _, _, rfl, rfl, ⟨by decide, by decide, by decide⟩, d, l, ms, nn, L, _, rfl, hold.pen, by omega, by decide, by decide, fun r n1 L1 H4 r0 r1 b1 b1' q1 k1 => ⟨by show 8 ≤ sizeLine; decide, fun l6 hl6 => ?_⟩⟩
        have h4 := hold.draw q1 k1
        have s5 : Same H4 (upd H4 l6 (.lst (things r))) := Same.new (Same.refl _) hl6
        have c5 : (upd H4 l6 (.lst (things r))) l6 = some (.lst (things r)) := upd_same
        change tSeq _ _ _ _ (upd H4 l6 (.lst (things r)))
        generalize upd H4 l6 (.lst (things r)) = H5 at s5 c5 ⊢
        have h5 := h4.same s5
        refine ⟨_, rfl, _, rfl, d, l, ms, n1, L1, 8, rfl, h5.pen, by omega, by decide, by decide, fun r2 n2 L2 H6 r20 r21 b2 b2' q2 k2 => ?_⟩
        have c6 := k2 _ _ c5 (ne_of c5 h5.pen.dc (by intro z; cases z))
        have h6 := h5.draw q2 k2
        obtain ⟨v, z, hv, rpv⟩ := things_rp r r0 r1 r2.toNat (by omega)
        have hat := atI_nat hv
        rw [Int.toNat_of_nonneg r20] at hat
        refine ⟨l6, _, _, v, rfl, rfl, SqL.of c6, hat, ?_⟩
        refine ⟨_, rfl, d, l, ms, n2, L2, 2, rfl, h6.pen, by omega, by decide, by decide, fun r3 n3 L3 H7 r30 r31 b3 b3' q3 k3 => ?_⟩
        have h7 := h6.draw q3 k3
        refine ⟨rfl, _, _, rfl, ?_⟩
        refine nx_of ?_
        refine asg_of ⟨_, rfl, _, rfl, _, rfl, j, v, _, rfl, hj, fun e H8 he s8 m8 => ?_⟩
        have h8 := h7.same s8
        obtain ⟨fs, hX, _⟩ := m8.fields hj
        refine asg_of ⟨_, rfl, e, j, fs, rfl, hj, hX, fun t lf lo H9 s9 et ef eo => ⟨t, _, rfl, SqT.of et, rfl, _, _, rfl, _, _, rfl, rfl, ?_⟩⟩
        have h9 := h8.same s9
        have hwd : (My.wds.map V.str)[j]? = some (V.str (wd j)) := by
          rw [List.getElem?_map, wds_at j hj]; rfl
        refine ⟨_, rfl, _, rfl, _, rfl, lw, _, _, _, rfl, rfl, SqL.of h9.wds, atI_nat hwd, by show 1 ≤ sizeLine; decide, fun q hq => ?_⟩
        have s10 : Same H9 (upd H9 q (.lst [.str (wd j)])) := Same.new (Same.refl _) hq
        have h10 := h9.same s10
        have eo10 := s10 _ _ eo
        refine ⟨.list [.str (wd j)], .list [.str (wd j)], .lst (SqL.of (s10 _ _ ef)) (.cons (.str _) .nil), .lst (SqL.of upd_same) (.cons (.str _) .nil), shaped_wd j hj, shaped_wd j hj, _, rfl, iteB0 (by simp [PyData.eqv, PyData.eqvAll]) ?_⟩
        have m10 := (m8.same s9).same s10
        generalize upd H9 q (.lst [.str (wd j)]) = H10 at s10 h10 eo10 m10 ⊢
        refine ⟨7, rfl, by decide, by decide, fun D hD => lc_range (lo := 0) (n := 7) (fun n H' => Same H10 H' ∧ H' D = some (.lst ((selN j n).map V.int))) ⟨Same.new (Same.refl _) hD, upd_same⟩ (fun n H' hn p => ?_) (fun H11 p => ?_)⟩
        · rw [Int.zero_add]
          obtain ⟨p1, p2⟩ := p
          refine ⟨rfl, _, rfl, _, rfl, lo, _, _, _, rfl, rfl, SqL.of (p1 _ _ eo10), atI_nat (ownB_at j n hn), _, rfl, ?_⟩
          cases hb : own j n with
          | true =>
            refine iteT ⟨_, rfl, _, p2, ?_, ?_⟩
            · rw [List.length_map]
              exact Nat.lt_of_le_of_lt (Nat.le_trans (selN_len j n) (Nat.le_of_lt hn)) (by decide)
            · refine ⟨fun c o ec => ?_, ?_⟩
              · rw [upd_ne (ne_of_none ec hD)]; exact p1 c o ec
              · rw [upd_same, selN, if_pos hb, List.map_append]; rfl
          | false =>
            refine iteF ⟨p1, ?_⟩
            rw [p2, selN, if_neg (by rw [hb]; exact Bool.false_ne_true)]
        · obtain ⟨p1, p2⟩ := p
          have p2 : H11 D = some (.lst ((selN j 7).map V.int)) := p2
          rw [selN_all j hj] at p2
          have h11 := h10.same p1
          have m11 := m10.same p1
          have hts : ∃ tj, ([t0, t1, t2, t3, t4, t5, t6, t7, t8, t9] : List Addr)[j]? = some tj := ⟨_, List.getElem?_eq_getElem (show j < 10 from hj)⟩
          obtain ⟨tj, htj⟩ := hts
          have hmt : (([t0, t1, t2, t3, t4, t5, t6, t7, t8, t9] : List Addr).map V.ref)[j]? = some (V.ref tj) := by
            rw [List.getElem?_map, htj]; rfl
          refine ⟨_, rfl, _, rfl, lp, _, _, _, rfl, rfl, SqL.of h11.sp, atI_nat hmt, tj, _, rfl, .inr (SqT.of (h11.tup j tj htj)), fun l8 hl8 => ?_⟩
          have s12 : Same H11 (upd H11 l8 (.lst ((spots j).map V.int))) := Same.new (Same.refl _) hl8
          have h12 := h11.same s12
          have m12 := m11.same s12
          refine ⟨.list ((spots j).map PyData.int), .list ((spots j).map PyData.int), .lst (SqL.of (s12 _ _ p2)) (dp_ints _), .lst (SqL.of upd_same) (dp_ints _), shaped_ints _, shaped_ints _, _, rfl, iteB0 (by rw [PyData.eqv, eqv_ints]; rfl) ?_⟩
          change tSeq _ _ _ _ (upd H11 l8 (.lst ((spots j).map V.int)))
          generalize upd H11 l8 (.lst ((spots j).map V.int)) = H12 at s12 h12 m12 ⊢
          have hz : Rp (if j = 8 then V.non else v) (if j = 8 then "None" else z) := by
            by_cases c8 : j = 8
            · rw [if_pos c8, if_pos c8]; exact .non
            · rw [if_neg c8, if_neg c8]; exact rpv
          refine ⟨_, rfl, e, j, v, rfl, hj, m12, fun H13 s13 => ⟨_, _, rfl, hz, ?_⟩⟩
          have h13 := h12.same s13
          have m13 := m12.same s13
          refine ⟨_, rfl, rfl, _, rfl, ?_⟩
          by_cases c8 : j = 8
          · refine iteB0 (by rw [c8]; rfl) ?_
            refine ⟨_, _, rfl, .non, rfl, _, rfl, iteB0 (by rw [if_pos c8]; simp) ?_⟩
            refine ⟨_, rfl, rfl, _, rfl, ite2 (fun c9 => ?_) (fun c9 => ?_)⟩
            · have c9 : (j : Int) = 9 := V.int.inj (of_decide_eq_true c9)
              rcases m13 with ⟨g0, _⟩ | ⟨g0, _⟩ | ⟨g0, m, y1, y2⟩
              · omega
              · omega
              · rcases y1 with ⟨z1, _⟩ | ⟨dx, g1, g2⟩
                · cases z1
                · refine ⟨_, rfl, e, CS 9, dx, bT 9, _, _, rfl, T.xc 9 (by decide), T.nf 9 (by decide) "why" (by decide), g1, g2, rfl, m, CS 6, .ref (CS 6), bT 6, _, .ref (CS 6), _, rfl, .own _, T.xc 6 (by decide), y2, T.kit 6 6 (by decide) (by decide), _, rfl, iteB0 rfl ?_⟩
                  rcases y2 with ⟨z2, _⟩ | ⟨dm, g3, g4⟩
                  · cases z2
                  · refine ⟨_, rfl, e, CS 9, dx, bT 9, _, _, rfl, T.xc 9 (by decide), T.nf 9 (by decide) "why" (by decide), g1, g2, rfl, m, CS 6, dm, bT 6, _, _, rfl, T.xc 6 (by decide), T.nf 6 (by decide) "name" (by decide), g3, g4, rfl, rfl, _, rfl, iteB0 (by simp) ?_⟩
                    exact ⟨n3, L3, _, _, _, _, _, _, _, _, _, rfl, h13, by omega⟩
            · exact ⟨n3, L3, _, _, _, _, _, _, _, _, _, rfl, h13, by omega⟩
          · refine iteB1 (by rw [decide_eq_false (fun h => c8 (by have := V.int.inj h; omega))]; rfl) ?_
            refine ⟨_, rfl, _, _, rfl, rpv, rfl, _, rfl, iteB0 (by rw [if_neg c8]; simp) ?_⟩
            refine ⟨_, rfl, rfl, _, rfl, ite2 (fun c9 => ?_) (fun c9 => ?_)⟩
            · have c9 : (j : Int) = 9 := V.int.inj (of_decide_eq_true c9)
              rcases m13 with ⟨g0, _⟩ | ⟨g0, _⟩ | ⟨g0, m, y1, y2⟩
              · omega
              · omega
              · rcases y1 with ⟨z1, _⟩ | ⟨dx, g1, g2⟩
                · cases z1
                · refine ⟨_, rfl, e, CS 9, dx, bT 9, _, _, rfl, T.xc 9 (by decide), T.nf 9 (by decide) "why" (by decide), g1, g2, rfl, m, CS 6, .ref (CS 6), bT 6, _, .ref (CS 6), _, rfl, .own _, T.xc 6 (by decide), y2, T.kit 6 6 (by decide) (by decide), _, rfl, iteB0 rfl ?_⟩
                  rcases y2 with ⟨z2, _⟩ | ⟨dm, g3, g4⟩
                  · cases z2
                  · refine ⟨_, rfl, e, CS 9, dx, bT 9, _, _, rfl, T.xc 9 (by decide), T.nf 9 (by decide) "why" (by decide), g1, g2, rfl, m, CS 6, dm, bT 6, _, _, rfl, T.xc 6 (by decide), T.nf 6 (by decide) "name" (by decide), g3, g4, rfl, rfl, _, rfl, iteB0 (by simp) ?_⟩
                    exact ⟨n3, L3, _, _, _, _, _, _, _, _, _, rfl, h13, by omega⟩
            · exact ⟨n3, L3, _, _, _, _, _, _, _, _, _, rfl, h13, by omega⟩
      · rintro σ H3 ⟨nn, L, x4, x5, x6, x7, x8, x9, x10, x11, x12, rfl, hold, hb⟩
        exact ⟨nn, L, _, _, _, _, _, _, _, _, _, rfl, hold, by omega⟩
    · rintro σ H2 ⟨nn, L, x4, x5, x6, x7, x8, x9, x10, x11, x12, rfl, hold, hb⟩
      exact k H2

end
end My

set_option Elab.async false
set_option linter.all false
set_option maxRecDepth 100000
set_option maxHeartbeats 4000000
namespace My
open PySem L2
abbrev veTl : List Value := [.type "ValueError", .type "Exception", .type "BaseException", .type "object"]
abbrev ieTl : List Value := [.type "IndexError", .type "LookupError", .type "Exception", .type "BaseException", .type "object"]
abbrev reTl : List Value := [.type "RuntimeError", .type "Exception", .type "BaseException", .type "object"]
abbrev leTl : List Value := [.type "LookupError", .type "Exception", .type "BaseException", .type "object"]
def flNames : List Str := ["row", "thing", "most", "name", "rank", "why"]
/-- all that is asked of the i-th class, as one look -/
def chk (K : PySem.W.Frag) (Cs : List Addr) (C i : Nat) (bmB : List Value) (newId : String) : Bool :=
  PySem.W.excInitIn K C bmB newId && (PySem.W.excOver K C bmB && (decide (PySem.W.findIn K (.ref C) "__setattr__" = some (some (.builtin "object.__setattr__"))) && (PySem.W.hasDictIn K C && (PySem.W.keepIn K (.ref C) &&
  (decide (PySem.W.findIn K (.ref C) "__getattribute__" = some (some (.builtin "BaseException.__getattribute__"))) && (decide (PySem.W.findIn K (.ref C) "__getattr__" = some none) && (decide (PySem.W.subIn K (.ref C) (.type "BaseException") = some true) &&
  (decide (PySem.W.findIn K (.ref C) "__class__" = some (some (.builtin "object.__class__"))) && (decide (PySem.W.specialIn K (.builtin "object.__class__") "__get__" = some (some (.builtin "getset_descriptor.__get__"))) &&
  (decide (PySem.W.takesIn K (.builtin "object.__class__") = some true) && (decide (PySem.W.mroIn K C (.type "object") = some true) &&
  ((flNames.all fun f => decide (PySem.W.findIn K (.ref C) f = some none)) && (((List.range 10).all fun j => decide (PySem.W.kitOne K (.ref C) (.ref (Cs.getD j 0)) = some (decide (i = j)))) &&
  ((List.range 7).all fun k => decide (PySem.W.kitOne K (.ref C) (.type (bN k)) = some (own i k))))))))))))))))
structure Chk (K : PySem.W.Frag) (Cs : List Addr) (C i : Nat) (bmB : List Value) (newId : String) : Prop where
  a1 : PySem.W.excInitIn K C bmB newId = true
  a2 : PySem.W.excOver K C bmB = true
  a3 : PySem.W.findIn K (.ref C) "__setattr__" = some (some (.builtin "object.__setattr__"))
  a4 : PySem.W.hasDictIn K C = true
  a5 : PySem.W.keepIn K (.ref C) = true
  a6 : PySem.W.findIn K (.ref C) "__getattribute__" = some (some (.builtin "BaseException.__getattribute__"))
  a7 : PySem.W.findIn K (.ref C) "__getattr__" = some none
  a8 : PySem.W.subIn K (.ref C) (.type "BaseException") = some true
  a9 : PySem.W.findIn K (.ref C) "__class__" = some (some (.builtin "object.__class__"))
  b1 : PySem.W.specialIn K (.builtin "object.__class__") "__get__" = some (some (.builtin "getset_descriptor.__get__"))
  b2 : PySem.W.takesIn K (.builtin "object.__class__") = some true
  b3 : PySem.W.mroIn K C (.type "object") = some true
  b4 : ∀ f ∈ flNames, PySem.W.findIn K (.ref C) f = some none
  b5 : ∀ j, j < 10 → PySem.W.kitOne K (.ref C) (.ref (Cs.getD j 0)) = some (decide (i = j))
  b6 : ∀ k, k < 7 → PySem.W.kitOne K (.ref C) (.type (bN k)) = some (own i k)
theorem chk_ok {K : PySem.W.Frag} {Cs : List Addr} {C i : Nat} {bmB : List Value} {newId : String} (h : chk K Cs C i bmB newId = true) : Chk K Cs C i bmB newId := by
  unfold chk at h
  simp only [Bool.and_eq_true, decide_eq_true_eq, List.all_eq_true, List.mem_range] at h
  obtain ⟨a1, a2, a3, a4, a5, a6, a7, a8, a9, b1, b2, b3, b4, b5, b6⟩ := h
  exact ⟨a1, a2, a3, a4, a5, a6, a7, a8, a9, b1, b2, b3, b4, b5, b6⟩
theorem xc_of {K : PySem.W.Frag} {Cs : List Addr} {C i : Nat} {T B B' newId initId : String} {bmB bmF : List Value} (c : Chk K Cs C i bmB newId) (F : ExcBaseFacts B newId initId bmF) (S : StoreFacts B' bmB "object.__setattr__" "object") (tl : Tail B bmB) (hT : bmB.contains (.type T) = true) : XC K C T :=
  ⟨⟨B, newId, initId, bmB, bmF, c.a1, F, tl, hT⟩, ⟨B', bmB, S, c.a2⟩, c.a3, c.a4, c.a5, c.a6, c.a7, c.a8, c.a9, c.b1, c.b2, c.b3⟩

theorem tlValueError : Tail "ValueError" veTl := ⟨by decide +kernel, by decide +kernel, by decide +kernel⟩
theorem tlKeyError : Tail "LookupError" keyTail := ⟨by decide +kernel, by decide +kernel, by decide +kernel⟩
theorem tlIndexError : Tail "IndexError" ieTl := ⟨by decide +kernel, by decide +kernel, by decide +kernel⟩
theorem tlRuntimeError : Tail "RuntimeError" reTl := ⟨by decide +kernel, by decide +kernel, by decide +kernel⟩
theorem tlLookupError : Tail "LookupError" leTl := ⟨by decide +kernel, by decide +kernel, by decide +kernel⟩
section
variable {K : PySem.W.Frag} {mg : Str → Option Value}

theorem mkr0 {P : Program} {w : World} {base : Heap} {C f : Addr} {fd : FuncData} (F : Fun K "__init__" "NoText.__init__" sI0 f fd) (iC : PySem.W.findIn K (.ref C) "__init__" = some (some (.ref f))) (tI : PySem.W.typeIn K (.ref f) = some (.type "function"))
    (G : FnOk P w K mg base CX0 1 f fd ["self", "row"] (spI1 C "row")) : Mkr P w K mg base C ["row"] (spI1 C "row") := by
  obtain ⟨oc, od, kV, doc, pm, an, cdv, ct, osl, rfl, lk, hcd⟩ := F.ex
  refine ⟨f, _, iC, tI, G, ⟨fun s self us ws _ l1 l2 => ?_, fun _ _ r1 r2 => .cons rfl r1⟩, ⟨fun s self us ws _ l1 l2 => ?_, fun _ _ r1 r2 => .cons rfl r2⟩⟩
  · match us, l1, ws, l2 with
    | [_], _, [], _ => exact .of_eq rfl
  · match us, l1, ws, l2 with
    | [], _, [_], _ => exact .of_eq rfl
theorem mkr1 {P : Program} {w : World} {base : Heap} {C f : Addr} {fd : FuncData} (F : Fun K "__init__" "NoRow.__init__" sI1 f fd) (iC : PySem.W.findIn K (.ref C) "__init__" = some (some (.ref f))) (tI : PySem.W.typeIn K (.ref f) = some (.type "function"))
    (G : FnOk P w K mg base CX0 1 f fd ["self", "row"] (spI1 C "row")) : Mkr P w K mg base C ["row"] (spI1 C "row") := by
  obtain ⟨oc, od, kV, doc, pm, an, cdv, ct, osl, rfl, lk, hcd⟩ := F.ex
  refine ⟨f, _, iC, tI, G, ⟨fun s self us ws _ l1 l2 => ?_, fun _ _ r1 r2 => .cons rfl r1⟩, ⟨fun s self us ws _ l1 l2 => ?_, fun _ _ r1 r2 => .cons rfl r2⟩⟩
  · match us, l1, ws, l2 with
    | [_], _, [], _ => exact .of_eq rfl
  · match us, l1, ws, l2 with
    | [], _, [_], _ => exact .of_eq rfl
theorem mkr2 {P : Program} {w : World} {base : Heap} {C f : Addr} {fd : FuncData} (F : Fun K "__init__" "NoScript.__init__" sI2 f fd) (iC : PySem.W.findIn K (.ref C) "__init__" = some (some (.ref f))) (tI : PySem.W.typeIn K (.ref f) = some (.type "function"))
    (G : FnOk P w K mg base CX0 1 f fd ["self", "thing"] (spI1 C "thing")) : Mkr P w K mg base C ["thing"] (spI1 C "thing") := by
  obtain ⟨oc, od, kV, doc, pm, an, cdv, ct, osl, rfl, lk, hcd⟩ := F.ex
  refine ⟨f, _, iC, tI, G, ⟨fun s self us ws _ l1 l2 => ?_, fun _ _ r1 r2 => .cons rfl r1⟩, ⟨fun s self us ws _ l1 l2 => ?_, fun _ _ r1 r2 => .cons rfl r2⟩⟩
  · match us, l1, ws, l2 with
    | [_], _, [], _ => exact .of_eq rfl
  · match us, l1, ws, l2 with
    | [], _, [_], _ => exact .of_eq rfl
theorem mkr3 {P : Program} {w : World} {base : Heap} {C f : Addr} {fd : FuncData} (F : Fun K "__init__" "TooMany.__init__" sI3 f fd) (iC : PySem.W.findIn K (.ref C) "__init__" = some (some (.ref f))) (tI : PySem.W.typeIn K (.ref f) = some (.type "function"))
    (G : FnOk P w K mg base CX0 1 f fd ["self", "most"] (spI1 C "most")) : Mkr P w K mg base C ["most"] (spI1 C "most") := by
  obtain ⟨oc, od, kV, doc, pm, an, cdv, ct, osl, rfl, lk, hcd⟩ := F.ex
  refine ⟨f, _, iC, tI, G, ⟨fun s self us ws _ l1 l2 => ?_, fun _ _ r1 r2 => .cons rfl r1⟩, ⟨fun s self us ws _ l1 l2 => ?_, fun _ _ r1 r2 => .cons rfl r2⟩⟩
  · match us, l1, ws, l2 with
    | [_], _, [], _ => exact .of_eq rfl
  · match us, l1, ws, l2 with
    | [], _, [_], _ => exact .of_eq rfl
theorem mkr4 {P : Program} {w : World} {base : Heap} {C f : Addr} {fd : FuncData} (F : Fun K "__init__" "NoLoop.__init__" sI4 f fd) (iC : PySem.W.findIn K (.ref C) "__init__" = some (some (.ref f))) (tI : PySem.W.typeIn K (.ref f) = some (.type "function"))
    (G : FnOk P w K mg base CX0 1 f fd ["self", "name"] (spI1 C "name")) : Mkr P w K mg base C ["name"] (spI1 C "name") := by
  obtain ⟨oc, od, kV, doc, pm, an, cdv, ct, osl, rfl, lk, hcd⟩ := F.ex
  refine ⟨f, _, iC, tI, G, ⟨fun s self us ws _ l1 l2 => ?_, fun _ _ r1 r2 => .cons rfl r1⟩, ⟨fun s self us ws _ l1 l2 => ?_, fun _ _ r1 r2 => .cons rfl r2⟩⟩
  · match us, l1, ws, l2 with
    | [_], _, [], _ => exact .of_eq rfl
  · match us, l1, ws, l2 with
    | [], _, [_], _ => exact .of_eq rfl
theorem mkr5 {P : Program} {w : World} {base : Heap} {C f : Addr} {fd : FuncData} (F : Fun K "__init__" "NoPromise.__init__" sI5 f fd) (iC : PySem.W.findIn K (.ref C) "__init__" = some (some (.ref f))) (tI : PySem.W.typeIn K (.ref f) = some (.type "function"))
    (G : FnOk P w K mg base CX0 1 f fd ["self", "name"] (spI1 C "name")) : Mkr P w K mg base C ["name"] (spI1 C "name") := by
  obtain ⟨oc, od, kV, doc, pm, an, cdv, ct, osl, rfl, lk, hcd⟩ := F.ex
  refine ⟨f, _, iC, tI, G, ⟨fun s self us ws _ l1 l2 => ?_, fun _ _ r1 r2 => .cons rfl r1⟩, ⟨fun s self us ws _ l1 l2 => ?_, fun _ _ r1 r2 => .cons rfl r2⟩⟩
  · match us, l1, ws, l2 with
    | [_], _, [], _ => exact .of_eq rfl
  · match us, l1, ws, l2 with
    | [], _, [_], _ => exact .of_eq rfl
theorem mkr6 {P : Program} {w : World} {base : Heap} {C f : Addr} {fd : FuncData} (F : Fun K "__init__" "NoMark.__init__" sI6 f fd) (iC : PySem.W.findIn K (.ref C) "__init__" = some (some (.ref f))) (tI : PySem.W.typeIn K (.ref f) = some (.type "function"))
    (G : FnOk P w K mg base CX0 1 f fd ["self", "name"] (spI1 C "name")) : Mkr P w K mg base C ["name"] (spI1 C "name") := by
  obtain ⟨oc, od, kV, doc, pm, an, cdv, ct, osl, rfl, lk, hcd⟩ := F.ex
  refine ⟨f, _, iC, tI, G, ⟨fun s self us ws _ l1 l2 => ?_, fun _ _ r1 r2 => .cons rfl r1⟩, ⟨fun s self us ws _ l1 l2 => ?_, fun _ _ r1 r2 => .cons rfl r2⟩⟩
  · match us, l1, ws, l2 with
    | [_], _, [], _ => exact .of_eq rfl
  · match us, l1, ws, l2 with
    | [], _, [_], _ => exact .of_eq rfl
theorem mkr7 {P : Program} {w : World} {base : Heap} {C f : Addr} {fd : FuncData} (F : Fun K "__init__" "NoRank.__init__" sI7 f fd) (iC : PySem.W.findIn K (.ref C) "__init__" = some (some (.ref f))) (tI : PySem.W.typeIn K (.ref f) = some (.type "function"))
    (G : FnOk P w K mg base CX0 1 f fd ["self", "rank"] (spI1 C "rank")) : Mkr P w K mg base C ["rank"] (spI1 C "rank") := by
  obtain ⟨oc, od, kV, doc, pm, an, cdv, ct, osl, rfl, lk, hcd⟩ := F.ex
  refine ⟨f, _, iC, tI, G, ⟨fun s self us ws _ l1 l2 => ?_, fun _ _ r1 r2 => .cons rfl r1⟩, ⟨fun s self us ws _ l1 l2 => ?_, fun _ _ r1 r2 => .cons rfl r2⟩⟩
  · match us, l1, ws, l2 with
    | [_], _, [], _ => exact .of_eq rfl
  · match us, l1, ws, l2 with
    | [], _, [_], _ => exact .of_eq rfl
theorem mkr8 {P : Program} {w : World} {base : Heap} {C f : Addr} {fd : FuncData} (F : Fun K "__init__" "Busy.__init__" sI8 f fd) (iC : PySem.W.findIn K (.ref C) "__init__" = some (some (.ref f))) (tI : PySem.W.typeIn K (.ref f) = some (.type "function"))
    (G : FnOk P w K mg base CX0 1 f fd ["self"] (spI0 C)) : Mkr P w K mg base C [] (spI0 C) := by
  obtain ⟨oc, od, kV, doc, pm, an, cdv, ct, osl, rfl, lk, hcd⟩ := F.ex
  refine ⟨f, _, iC, tI, G, ⟨fun s self us ws _ l1 l2 => ?_, fun _ _ r1 r2 => .cons rfl r1⟩, ⟨fun s self us ws _ l1 l2 => ?_, fun _ _ r1 r2 => .cons rfl r2⟩⟩
  · match us, l1, ws, l2 with
    | [], _, [], _ => exact .of_eq rfl
  · match us, l1, ws, l2 with
    | [], _, [], _ => exact .of_eq rfl
theorem mkr9 {P : Program} {w : World} {base : Heap} {C f : Addr} {fd : FuncData} (F : Fun K "__init__" "Undone.__init__" sI9 f fd) (iC : PySem.W.findIn K (.ref C) "__init__" = some (some (.ref f))) (tI : PySem.W.typeIn K (.ref f) = some (.type "function"))
    (G : FnOk P w K mg base CX0 1 f fd ["self", "row", "why"] (spI2 C "row" "why")) : Mkr P w K mg base C ["row", "why"] (spI2 C "row" "why") := by
  obtain ⟨oc, od, kV, doc, pm, an, cdv, ct, osl, rfl, lk, hcd⟩ := F.ex
  refine ⟨f, _, iC, tI, G, ⟨fun s self us ws _ l1 l2 => ?_, fun _ _ r1 r2 => .cons rfl r1⟩, ⟨fun s self us ws _ l1 l2 => ?_, fun _ _ r1 r2 => .cons rfl r2⟩⟩
  · match us, l1, ws, l2 with
    | [_, _], _, [], _ => exact .of_eq rfl
  · match us, l1, ws, l2 with
    | [], _, [_, _], _ => exact .of_eq rfl
end
theorem all_mk {l : PySem.W.OpenLaw} {w : World} {K : PySem.W.Frag} {h : Heap} {mg : Str → Option Value} {fa C0 C1 C2 C3 C4 C5 C6 C7 C8 C9 f0 f1 f2 f3 f4 f5 f6 f7 f8 f9 gpen gdraw gkinds gmade gfield glaw : Addr} (X : K.In h) (G : h.Ns mainGlobals mg) (hfa : mg "law" = some (.ref fa))
    {od0 an0 od1 an1 od2 an2 od3 an3 od4 an4 od5 an5 od6 an6 od7 an7 od8 an8 od9 an9 odpen anpen oddraw andraw odkinds ankinds odmade anmade odfield anfield odlaw anlaw : Option Addr} {sl0 sl1 sl2 sl3 sl4 sl5 sl6 sl7 sl8 sl9 slpen sldraw slkinds slmade slfield sllaw : Array (Option Value)} {oc0 kV0 dc0 pm0 cd0 ct0 oc1 kV1 dc1 pm1 cd1 ct1 oc2 kV2 dc2 pm2 cd2 ct2 oc3 kV3 dc3 pm3 cd3 ct3 oc4 kV4 dc4 pm4 cd4 ct4 oc5 kV5 dc5 pm5 cd5 ct5 oc6 kV6 dc6 pm6 cd6 ct6 oc7 kV7 dc7 pm7 cd7 ct7 oc8 kV8 dc8 pm8 cd8 ct8 oc9 kV9 dc9 pm9 cd9 ct9 ocpen kVpen dcpen pmpen cdpen ctpen ocdraw kVdraw dcdraw pmdraw cddraw ctdraw ockinds kVkinds dckinds pmkinds cdkinds ctkinds ocmade kVmade dcmade pmmade cdmade ctmade ocfield kVfield dcfield pmfield cdfield ctfield oclaw kVlaw dclaw pmlaw cdlaw ctlaw : Value}
    (aC0 : PySem.W.nsIn K mainGlobals "NoText" = some (some (.ref C0)))
    (aC1 : PySem.W.nsIn K mainGlobals "NoRow" = some (some (.ref C1)))
    (aC2 : PySem.W.nsIn K mainGlobals "NoScript" = some (some (.ref C2)))
    (aC3 : PySem.W.nsIn K mainGlobals "TooMany" = some (some (.ref C3)))
    (aC4 : PySem.W.nsIn K mainGlobals "NoLoop" = some (some (.ref C4)))
    (aC5 : PySem.W.nsIn K mainGlobals "NoPromise" = some (some (.ref C5)))
    (aC6 : PySem.W.nsIn K mainGlobals "NoMark" = some (some (.ref C6)))
    (aC7 : PySem.W.nsIn K mainGlobals "NoRank" = some (some (.ref C7)))
    (aC8 : PySem.W.nsIn K mainGlobals "Busy" = some (some (.ref C8)))
    (aC9 : PySem.W.nsIn K mainGlobals "Undone" = some (some (.ref C9)))
    (iC0 : PySem.W.findIn K (.ref C0) "__init__" = some (some (.ref f0))) (tI0 : PySem.W.typeIn K (.ref f0) = some (.type "function")) (lI0 : K.lookup f0 = some ⟨oc0, od0, .func (PySem.W.fnOf "__init__" "NoText.__init__" (defArgs sI0) (defBody sI0) (defScope sI0) .none kV0 dc0 pm0 an0 cd0 ct0), sl0⟩) (cI0 : PySem.W.codeIn K cd0 "NoText.__init__" = true) (kI0 : PySem.W.keepIn K (.ref f0) = true)
    (iC1 : PySem.W.findIn K (.ref C1) "__init__" = some (some (.ref f1))) (tI1 : PySem.W.typeIn K (.ref f1) = some (.type "function")) (lI1 : K.lookup f1 = some ⟨oc1, od1, .func (PySem.W.fnOf "__init__" "NoRow.__init__" (defArgs sI1) (defBody sI1) (defScope sI1) .none kV1 dc1 pm1 an1 cd1 ct1), sl1⟩) (cI1 : PySem.W.codeIn K cd1 "NoRow.__init__" = true) (kI1 : PySem.W.keepIn K (.ref f1) = true)
    (iC2 : PySem.W.findIn K (.ref C2) "__init__" = some (some (.ref f2))) (tI2 : PySem.W.typeIn K (.ref f2) = some (.type "function")) (lI2 : K.lookup f2 = some ⟨oc2, od2, .func (PySem.W.fnOf "__init__" "NoScript.__init__" (defArgs sI2) (defBody sI2) (defScope sI2) .none kV2 dc2 pm2 an2 cd2 ct2), sl2⟩) (cI2 : PySem.W.codeIn K cd2 "NoScript.__init__" = true) (kI2 : PySem.W.keepIn K (.ref f2) = true)
    (iC3 : PySem.W.findIn K (.ref C3) "__init__" = some (some (.ref f3))) (tI3 : PySem.W.typeIn K (.ref f3) = some (.type "function")) (lI3 : K.lookup f3 = some ⟨oc3, od3, .func (PySem.W.fnOf "__init__" "TooMany.__init__" (defArgs sI3) (defBody sI3) (defScope sI3) .none kV3 dc3 pm3 an3 cd3 ct3), sl3⟩) (cI3 : PySem.W.codeIn K cd3 "TooMany.__init__" = true) (kI3 : PySem.W.keepIn K (.ref f3) = true)
    (iC4 : PySem.W.findIn K (.ref C4) "__init__" = some (some (.ref f4))) (tI4 : PySem.W.typeIn K (.ref f4) = some (.type "function")) (lI4 : K.lookup f4 = some ⟨oc4, od4, .func (PySem.W.fnOf "__init__" "NoLoop.__init__" (defArgs sI4) (defBody sI4) (defScope sI4) .none kV4 dc4 pm4 an4 cd4 ct4), sl4⟩) (cI4 : PySem.W.codeIn K cd4 "NoLoop.__init__" = true) (kI4 : PySem.W.keepIn K (.ref f4) = true)
    (iC5 : PySem.W.findIn K (.ref C5) "__init__" = some (some (.ref f5))) (tI5 : PySem.W.typeIn K (.ref f5) = some (.type "function")) (lI5 : K.lookup f5 = some ⟨oc5, od5, .func (PySem.W.fnOf "__init__" "NoPromise.__init__" (defArgs sI5) (defBody sI5) (defScope sI5) .none kV5 dc5 pm5 an5 cd5 ct5), sl5⟩) (cI5 : PySem.W.codeIn K cd5 "NoPromise.__init__" = true) (kI5 : PySem.W.keepIn K (.ref f5) = true)
    (iC6 : PySem.W.findIn K (.ref C6) "__init__" = some (some (.ref f6))) (tI6 : PySem.W.typeIn K (.ref f6) = some (.type "function")) (lI6 : K.lookup f6 = some ⟨oc6, od6, .func (PySem.W.fnOf "__init__" "NoMark.__init__" (defArgs sI6) (defBody sI6) (defScope sI6) .none kV6 dc6 pm6 an6 cd6 ct6), sl6⟩) (cI6 : PySem.W.codeIn K cd6 "NoMark.__init__" = true) (kI6 : PySem.W.keepIn K (.ref f6) = true)
    (iC7 : PySem.W.findIn K (.ref C7) "__init__" = some (some (.ref f7))) (tI7 : PySem.W.typeIn K (.ref f7) = some (.type "function")) (lI7 : K.lookup f7 = some ⟨oc7, od7, .func (PySem.W.fnOf "__init__" "NoRank.__init__" (defArgs sI7) (defBody sI7) (defScope sI7) .none kV7 dc7 pm7 an7 cd7 ct7), sl7⟩) (cI7 : PySem.W.codeIn K cd7 "NoRank.__init__" = true) (kI7 : PySem.W.keepIn K (.ref f7) = true)
    (iC8 : PySem.W.findIn K (.ref C8) "__init__" = some (some (.ref f8))) (tI8 : PySem.W.typeIn K (.ref f8) = some (.type "function")) (lI8 : K.lookup f8 = some ⟨oc8, od8, .func (PySem.W.fnOf "__init__" "Busy.__init__" (defArgs sI8) (defBody sI8) (defScope sI8) .none kV8 dc8 pm8 an8 cd8 ct8), sl8⟩) (cI8 : PySem.W.codeIn K cd8 "Busy.__init__" = true) (kI8 : PySem.W.keepIn K (.ref f8) = true)
    (iC9 : PySem.W.findIn K (.ref C9) "__init__" = some (some (.ref f9))) (tI9 : PySem.W.typeIn K (.ref f9) = some (.type "function")) (lI9 : K.lookup f9 = some ⟨oc9, od9, .func (PySem.W.fnOf "__init__" "Undone.__init__" (defArgs sI9) (defBody sI9) (defScope sI9) .none kV9 dc9 pm9 an9 cd9 ct9), sl9⟩) (cI9 : PySem.W.codeIn K cd9 "Undone.__init__" = true) (kI9 : PySem.W.keepIn K (.ref f9) = true)
    (aFpen : PySem.W.nsIn K mainGlobals "_law_pen" = some (some (.ref gpen))) (lFpen : K.lookup gpen = some ⟨ocpen, odpen, .func (PySem.W.fnOf "_law_pen" "_law_pen" (defArgs sPen) (defBody sPen) (defScope sPen) .none kVpen dcpen pmpen anpen cdpen ctpen), slpen⟩) (cFpen : PySem.W.codeIn K cdpen "_law_pen" = true) (kFpen : PySem.W.keepIn K (.ref gpen) = true)
    (aFdraw : PySem.W.nsIn K mainGlobals "_law_draw" = some (some (.ref gdraw))) (lFdraw : K.lookup gdraw = some ⟨ocdraw, oddraw, .func (PySem.W.fnOf "_law_draw" "_law_draw" (defArgs sDraw) (defBody sDraw) (defScope sDraw) .none kVdraw dcdraw pmdraw andraw cddraw ctdraw), sldraw⟩) (cFdraw : PySem.W.codeIn K cddraw "_law_draw" = true) (kFdraw : PySem.W.keepIn K (.ref gdraw) = true)
    (aFkinds : PySem.W.nsIn K mainGlobals "_law_kinds" = some (some (.ref gkinds))) (lFkinds : K.lookup gkinds = some ⟨ockinds, odkinds, .func (PySem.W.fnOf "_law_kinds" "_law_kinds" (defArgs sKinds) (defBody sKinds) (defScope sKinds) .none kVkinds dckinds pmkinds ankinds cdkinds ctkinds), slkinds⟩) (cFkinds : PySem.W.codeIn K cdkinds "_law_kinds" = true) (kFkinds : PySem.W.keepIn K (.ref gkinds) = true)
    (aFmade : PySem.W.nsIn K mainGlobals "_law_made" = some (some (.ref gmade))) (lFmade : K.lookup gmade = some ⟨ocmade, odmade, .func (PySem.W.fnOf "_law_made" "_law_made" (defArgs sMade) (defBody sMade) (defScope sMade) .none kVmade dcmade pmmade anmade cdmade ctmade), slmade⟩) (cFmade : PySem.W.codeIn K cdmade "_law_made" = true) (kFmade : PySem.W.keepIn K (.ref gmade) = true)
    (aFfield : PySem.W.nsIn K mainGlobals "_law_field_of" = some (some (.ref gfield))) (lFfield : K.lookup gfield = some ⟨ocfield, odfield, .func (PySem.W.fnOf "_law_field_of" "_law_field_of" (defArgs sField) (defBody sField) (defScope sField) .none kVfield dcfield pmfield anfield cdfield ctfield), slfield⟩) (cFfield : PySem.W.codeIn K cdfield "_law_field_of" = true) (kFfield : PySem.W.keepIn K (.ref gfield) = true)
    (aFlaw : PySem.W.nsIn K mainGlobals "law" = some (some (.ref glaw))) (lFlaw : K.lookup glaw = some ⟨oclaw, odlaw, .func (PySem.W.fnOf "law" "law" (defArgs sLaw) (defBody sLaw) (defScope sLaw) .none kVlaw dclaw pmlaw anlaw cdlaw ctlaw), sllaw⟩) (cFlaw : PySem.W.codeIn K cdlaw "law" = true) (kFlaw : PySem.W.keepIn K (.ref glaw) = true)
    (vVValueError : PySem.W.findCls K (.type "ValueError") (.type "type") "__init__" = some (.val (.builtin "ValueError.__init__")))
    (vVKeyError : PySem.W.findCls K (.type "KeyError") (.type "type") "__init__" = some (.val (.builtin "KeyError.__init__")))
    (vVIndexError : PySem.W.findCls K (.type "IndexError") (.type "type") "__init__" = some (.val (.builtin "IndexError.__init__")))
    (vVRuntimeError : PySem.W.findCls K (.type "RuntimeError") (.type "type") "__init__" = some (.val (.builtin "RuntimeError.__init__")))
    (vVLookupError : PySem.W.findCls K (.type "LookupError") (.type "type") "__init__" = some (.val (.builtin "LookupError.__init__")))
    (zlist : PySem.W.nsIn K mainGlobals "list" = some none)
    (zlen : PySem.W.nsIn K mainGlobals "len" = some none)
    (zisinstance : PySem.W.nsIn K mainGlobals "isinstance" = some none)
    (zrange : PySem.W.nsIn K mainGlobals "range" = some none)
    (zrepr : PySem.W.nsIn K mainGlobals "repr" = some none)
    (zValueError : PySem.W.nsIn K mainGlobals "ValueError" = some none)
    (zKeyError : PySem.W.nsIn K mainGlobals "KeyError" = some none)
    (zIndexError : PySem.W.nsIn K mainGlobals "IndexError" = some none)
    (zLookupError : PySem.W.nsIn K mainGlobals "LookupError" = some none)
    (zRuntimeError : PySem.W.nsIn K mainGlobals "RuntimeError" = some none)
    (zArithmeticError : PySem.W.nsIn K mainGlobals "ArithmeticError" = some none)
    (zTypeError : PySem.W.nsIn K mainGlobals "TypeError" = some none)
    (ck0 : chk K [C0, C1, C2, C3, C4, C5, C6, C7, C8, C9] C0 0 veTl "ValueError.__new__" = true)
    (ck1 : chk K [C0, C1, C2, C3, C4, C5, C6, C7, C8, C9] C1 1 veTl "ValueError.__new__" = true)
    (ck2 : chk K [C0, C1, C2, C3, C4, C5, C6, C7, C8, C9] C2 2 veTl "ValueError.__new__" = true)
    (ck3 : chk K [C0, C1, C2, C3, C4, C5, C6, C7, C8, C9] C3 3 veTl "ValueError.__new__" = true)
    (ck4 : chk K [C0, C1, C2, C3, C4, C5, C6, C7, C8, C9] C4 4 keyTail "LookupError.__new__" = true)
    (ck5 : chk K [C0, C1, C2, C3, C4, C5, C6, C7, C8, C9] C5 5 keyTail "LookupError.__new__" = true)
    (ck6 : chk K [C0, C1, C2, C3, C4, C5, C6, C7, C8, C9] C6 6 keyTail "LookupError.__new__" = true)
    (ck7 : chk K [C0, C1, C2, C3, C4, C5, C6, C7, C8, C9] C7 7 ieTl "IndexError.__new__" = true)
    (ck8 : chk K [C0, C1, C2, C3, C4, C5, C6, C7, C8, C9] C8 8 reTl "RuntimeError.__new__" = true)
    (ck9 : chk K [C0, C1, C2, C3, C4, C5, C6, C7, C8, C9] C9 9 leTl "LookupError.__new__" = true) :
    ∃ fd : FuncData, (∀ (s : Shared) (v : Value), BindsTo s fd ⟨[v], []⟩ [("_law_script", v)]) ∧ ∀ base : Heap, K.In base → base.Ns mainGlobals mg → FnOk l.prog w K mg base CX0 4 fa fd ["_law_script"] (spLaw K) := by
  have e := hfa.symm.trans (PySem.W.mg_of X G aFlaw)
  cases e
  have c0 := chk_ok ck0
  have x0 : XC K C0 "ValueError" := xc_of c0 PySem.F.excBase_ValueError PySem.F.store_ValueError tlValueError (by decide +kernel)
  have c1 := chk_ok ck1
  have x1 : XC K C1 "ValueError" := xc_of c1 PySem.F.excBase_ValueError PySem.F.store_ValueError tlValueError (by decide +kernel)
  have c2 := chk_ok ck2
  have x2 : XC K C2 "ValueError" := xc_of c2 PySem.F.excBase_ValueError PySem.F.store_ValueError tlValueError (by decide +kernel)
  have c3 := chk_ok ck3
  have x3 : XC K C3 "ValueError" := xc_of c3 PySem.F.excBase_ValueError PySem.F.store_ValueError tlValueError (by decide +kernel)
  have c4 := chk_ok ck4
  have x4 : XC K C4 "KeyError" := xc_of c4 PySem.F.excBase_LookupError storeKey tlKeyError (by decide +kernel)
  have c5 := chk_ok ck5
  have x5 : XC K C5 "KeyError" := xc_of c5 PySem.F.excBase_LookupError storeKey tlKeyError (by decide +kernel)
  have c6 := chk_ok ck6
  have x6 : XC K C6 "KeyError" := xc_of c6 PySem.F.excBase_LookupError storeKey tlKeyError (by decide +kernel)
  have c7 := chk_ok ck7
  have x7 : XC K C7 "IndexError" := xc_of c7 PySem.F.excBase_IndexError PySem.F.store_IndexError tlIndexError (by decide +kernel)
  have c8 := chk_ok ck8
  have x8 : XC K C8 "RuntimeError" := xc_of c8 PySem.F.excBase_RuntimeError PySem.F.store_RuntimeError tlRuntimeError (by decide +kernel)
  have c9 := chk_ok ck9
  have x9 : XC K C9 "LookupError" := xc_of c9 PySem.F.excBase_LookupError PySem.F.store_LookupError tlLookupError (by decide +kernel)
  have T : CT K mg (fun i => ([C0, C1, C2, C3, C4, C5, C6, C7, C8, C9] : List Addr).getD i 0) := by
    refine ⟨fun i hi => ?_, fun i hi => ?_, fun i hi => ?_, fun i j hi hj => ?_, fun i k hi hk => ?_, PySem.W.mg_none_of X G zisinstance, fun k hk => ?_⟩
    · match i, hi with
      | 0, _ => exact x0
      | 1, _ => exact x1
      | 2, _ => exact x2
      | 3, _ => exact x3
      | 4, _ => exact x4
      | 5, _ => exact x5
      | 6, _ => exact x6
      | 7, _ => exact x7
      | 8, _ => exact x8
      | 9, _ => exact x9
    · match i, hi with
      | 0, _ => exact PySem.W.mg_of X G aC0
      | 1, _ => exact PySem.W.mg_of X G aC1
      | 2, _ => exact PySem.W.mg_of X G aC2
      | 3, _ => exact PySem.W.mg_of X G aC3
      | 4, _ => exact PySem.W.mg_of X G aC4
      | 5, _ => exact PySem.W.mg_of X G aC5
      | 6, _ => exact PySem.W.mg_of X G aC6
      | 7, _ => exact PySem.W.mg_of X G aC7
      | 8, _ => exact PySem.W.mg_of X G aC8
      | 9, _ => exact PySem.W.mg_of X G aC9
    · match i, hi with
      | 0, _ => exact c0.b4
      | 1, _ => exact c1.b4
      | 2, _ => exact c2.b4
      | 3, _ => exact c3.b4
      | 4, _ => exact c4.b4
      | 5, _ => exact c5.b4
      | 6, _ => exact c6.b4
      | 7, _ => exact c7.b4
      | 8, _ => exact c8.b4
      | 9, _ => exact c9.b4
    · match i, hi with
      | 0, _ => exact c0.b5 j hj
      | 1, _ => exact c1.b5 j hj
      | 2, _ => exact c2.b5 j hj
      | 3, _ => exact c3.b5 j hj
      | 4, _ => exact c4.b5 j hj
      | 5, _ => exact c5.b5 j hj
      | 6, _ => exact c6.b5 j hj
      | 7, _ => exact c7.b5 j hj
      | 8, _ => exact c8.b5 j hj
      | 9, _ => exact c9.b5 j hj
    · match i, hi with
      | 0, _ => exact c0.b6 k hk
      | 1, _ => exact c1.b6 k hk
      | 2, _ => exact c2.b6 k hk
      | 3, _ => exact c3.b6 k hk
      | 4, _ => exact c4.b6 k hk
      | 5, _ => exact c5.b6 k hk
      | 6, _ => exact c6.b6 k hk
      | 7, _ => exact c7.b6 k hk
      | 8, _ => exact c8.b6 k hk
      | 9, _ => exact c9.b6 k hk
    · match k, hk with
      | 0, _ => exact PySem.W.mg_none_of X G zValueError
      | 1, _ => exact PySem.W.mg_none_of X G zKeyError
      | 2, _ => exact PySem.W.mg_none_of X G zIndexError
      | 3, _ => exact PySem.W.mg_none_of X G zLookupError
      | 4, _ => exact PySem.W.mg_none_of X G zRuntimeError
      | 5, _ => exact PySem.W.mg_none_of X G zArithmeticError
      | 6, _ => exact PySem.W.mg_none_of X G zTypeError
  have F0 := fun_mk (st := sI0) lI0 cI0 kI0
  have F1 := fun_mk (st := sI1) lI1 cI1 kI1
  have F2 := fun_mk (st := sI2) lI2 cI2 kI2
  have F3 := fun_mk (st := sI3) lI3 cI3 kI3
  have F4 := fun_mk (st := sI4) lI4 cI4 kI4
  have F5 := fun_mk (st := sI5) lI5 cI5 kI5
  have F6 := fun_mk (st := sI6) lI6 cI6 kI6
  have F7 := fun_mk (st := sI7) lI7 cI7 kI7
  have F8 := fun_mk (st := sI8) lI8 cI8 kI8
  have F9 := fun_mk (st := sI9) lI9 cI9 kI9
  have Fpen := fun_mk (st := sPen) lFpen cFpen kFpen
  have Fdraw := fun_mk (st := sDraw) lFdraw cFdraw kFdraw
  have Fkinds := fun_mk (st := sKinds) lFkinds cFkinds kFkinds
  have Fmade := fun_mk (st := sMade) lFmade cFmade kFmade
  have Ffield := fun_mk (st := sField) lFfield cFfield kFfield
  have Flaw := fun_mk (st := sLaw) lFlaw cFlaw kFlaw
  have bP := Fpen.binds (ps := ["_law_script"]) fun _ _ _ _ _ _ us hl => match us, hl with | [_], _ => rfl
  have bD := Fdraw.binds (ps := ["_law_held", "_law_many"]) fun _ _ _ _ _ _ us hl => match us, hl with | [_, _], _ => rfl
  have bM := Fmade.binds (ps := ["_law_number", "_law_it", "_law_by_name"]) fun _ _ _ _ _ _ us hl => match us, hl with | [_, _, _], _ => rfl
  have bK := Fkinds.binds (ps := ["_law_e"]) fun _ _ _ _ _ _ us hl => match us, hl with | [_], _ => rfl
  have bF := Ffield.binds (ps := ["_law_e"]) fun _ _ _ _ _ _ us hl => match us, hl with | [_], _ => rfl
  refine ⟨PySem.W.fnOf "law" "law" (defArgs sLaw) (defBody sLaw) (defScope sLaw) .none kVlaw dclaw pmlaw anlaw cdlaw ctlaw, fun s v => .of_eq rfl, fun base _ _ => ?_⟩
  refine ok_law (CS := fun i => ([C0, C1, C2, C3, C4, C5, C6, C7, C8, C9] : List Addr).getD i 0) Flaw T (ok_pen Fpen (PySem.W.mg_none_of X G zlist)) (PySem.W.mg_of X G aFpen) kFpen bP (ok_draw Fdraw (PySem.W.mg_none_of X G zlen)) (PySem.W.mg_of X G aFdraw) kFdraw bD
    (ok_made Fmade T (mkr0 F0 iC0 tI0 (ok_i0 F0 x0 (PySem.W.mg_none_of X G zValueError) vVValueError (c0.b4 "row" (by decide +kernel)))) (mkr1 F1 iC1 tI1 (ok_i1 F1 x1 (PySem.W.mg_none_of X G zValueError) vVValueError (c1.b4 "row" (by decide +kernel)))) (mkr2 F2 iC2 tI2 (ok_i2 F2 x2 (PySem.W.mg_none_of X G zValueError) vVValueError (c2.b4 "thing" (by decide +kernel)))) (mkr3 F3 iC3 tI3 (ok_i3 F3 x3 (PySem.W.mg_none_of X G zValueError) vVValueError (c3.b4 "most" (by decide +kernel)))) (mkr4 F4 iC4 tI4 (ok_i4 F4 x4 (PySem.W.mg_none_of X G zKeyError) vVKeyError (c4.b4 "name" (by decide +kernel)))) (mkr5 F5 iC5 tI5 (ok_i5 F5 x5 (PySem.W.mg_none_of X G zKeyError) vVKeyError (c5.b4 "name" (by decide +kernel)))) (mkr6 F6 iC6 tI6 (ok_i6 F6 x6 (PySem.W.mg_none_of X G zKeyError) vVKeyError (c6.b4 "name" (by decide +kernel)))) (mkr7 F7 iC7 tI7 (ok_i7 F7 x7 (PySem.W.mg_none_of X G zIndexError) vVIndexError (c7.b4 "rank" (by decide +kernel)))) (mkr8 F8 iC8 tI8 (ok_i8 F8 x8 (PySem.W.mg_none_of X G zRuntimeError) vVRuntimeError)) (mkr9 F9 iC9 tI9 (ok_i9 F9 x9 (PySem.W.mg_none_of X G zLookupError) vVLookupError (c9.b4 "row" (by decide +kernel)) (c9.b4 "why" (by decide +kernel))))) (PySem.W.mg_of X G aFmade) kFmade bM
    (ok_kinds Fkinds T) (PySem.W.mg_of X G aFkinds) kFkinds bK (ok_field Ffield T) (PySem.W.mg_of X G aFfield) kFfield bF (PySem.W.mg_none_of X G zrange) (PySem.W.mg_none_of X G zlist) (PySem.W.mg_none_of X G zrepr)
theorem walk {l : PySem.W.OpenLaw} {q : Program} {loose : List Str} {XP : (Str → Option Value) → Heap → Prop} {YP : World → Heap → Prop} {d : DefRec} {K : Params → PySem.W.Frag} (hn : l.most = some 63) (hdf : d.params.defaults = [])
    (hY : ∀ (w : World) (h : Heap), YP w h → (K w.params).In h)
    (F : ∀ (w : World) (mg : Str → Option Value) (fa : Addr) (h : Heap), (K w.params).In h → h.Ns mainGlobals mg → mg d.name = some (.ref fa) →
      ∃ fd : FuncData, (∀ (s : Shared) (u : Value), BindsTo s fd ⟨[u], []⟩ [("_law_script", u)]) ∧ ∀ base : Heap, (K w.params).In base → base.Ns mainGlobals mg → FnOk l.prog w (K w.params) mg base CX0 4 fa fd ["_law_script"] (spLaw (K w.params))) :
    PySem.W.WalkO q loose XP YP l.row.toRowW d [] (fun f vs => PySem.call f vs) :=
  L2.walk_of (n := 63) (k := 4) (x := "_law_script") (CX := fun _ => CX0) (sp := fun w => spLaw (K w.params)) hn (by decide) hdf ⟨rfl, by decide, by decide⟩ hY F (fun _ _ a ns hl _ hS => ⟨a, ns, rfl, hS, fun _ => rfl⟩) fun _ _ _ _ _ z => z
end My

set_option Elab.async false
set_option linter.all false
set_option maxRecDepth 100000
open PySem PySem.W PyProof.Rows
set_option maxRecDepth 100000 in
set_option maxHeartbeats 0 in
theorem PySem.Challenge.cw_rankloop_k25_refusals_made_by_hand_holds : PySem.Challenge.rw_rankloop_k25_refusals_made_by_hand.Holds := by
  w_on; o_law; k_head; (case hw => w_witness2)
  k_fill
  refine My.walk (l := PySem.Challenge.rw_rankloop_k25_refusals_made_by_hand) rfl rfl (fun w h Y => PySem.W.kIn_of Y) ?F
  case F =>
    intro w mg fa h KX G hmg
    refine' My.all_mk KX G hmg ?aC0 ?aC1 ?aC2 ?aC3 ?aC4 ?aC5 ?aC6 ?aC7 ?aC8 ?aC9 ?iC0 ?tI0 ?lI0 ?cI0 ?kI0 ?iC1 ?tI1 ?lI1 ?cI1 ?kI1 ?iC2 ?tI2 ?lI2 ?cI2 ?kI2 ?iC3 ?tI3 ?lI3 ?cI3 ?kI3 ?iC4 ?tI4 ?lI4 ?cI4 ?kI4 ?iC5 ?tI5 ?lI5 ?cI5 ?kI5 ?iC6 ?tI6 ?lI6 ?cI6 ?kI6 ?iC7 ?tI7 ?lI7 ?cI7 ?kI7 ?iC8 ?tI8 ?lI8 ?cI8 ?kI8 ?iC9 ?tI9 ?lI9 ?cI9 ?kI9 ?aFpen ?lFpen ?cFpen ?kFpen ?aFdraw ?lFdraw ?cFdraw ?kFdraw ?aFkinds ?lFkinds ?cFkinds ?kFkinds ?aFmade ?lFmade ?cFmade ?kFmade ?aFfield ?lFfield ?cFfield ?kFfield ?aFlaw ?lFlaw ?cFlaw ?kFlaw ?vVValueError ?vVKeyError ?vVIndexError ?vVRuntimeError ?vVLookupError ?zlist ?zlen ?zisinstance ?zrange ?zrepr ?zValueError ?zKeyError ?zIndexError ?zLookupError ?zRuntimeError ?zArithmeticError ?zTypeError ?ck0 ?ck1 ?ck2 ?ck3 ?ck4 ?ck5 ?ck6 ?ck7 ?ck8 ?ck9
    (case aC0 => k_is)
    (case aC1 => k_is)
    (case aC2 => k_is)
    (case aC3 => k_is)
    (case aC4 => k_is)
    (case aC5 => k_is)
    (case aC6 => k_is)
    (case aC7 => k_is)
    (case aC8 => k_is)
    (case aC9 => k_is)
    (case iC0 => k_is)
    (case tI0 => k_is)
    (case lI0 => k_is)
    (case cI0 => k_is)
    (case kI0 => k_is)
    (case iC1 => k_is)
    (case tI1 => k_is)
    (case lI1 => k_is)
    (case cI1 => k_is)
    (case kI1 => k_is)
    (case iC2 => k_is)
    (case tI2 => k_is)
    (case lI2 => k_is)
    (case cI2 => k_is)
    (case kI2 => k_is)
    (case iC3 => k_is)
    (case tI3 => k_is)
    (case lI3 => k_is)
    (case cI3 => k_is)
    (case kI3 => k_is)
    (case iC4 => k_is)
    (case tI4 => k_is)
    (case lI4 => k_is)
    (case cI4 => k_is)
    (case kI4 => k_is)
    (case iC5 => k_is)
    (case tI5 => k_is)
    (case lI5 => k_is)
    (case cI5 => k_is)
    (case kI5 => k_is)
    (case iC6 => k_is)
    (case tI6 => k_is)
    (case lI6 => k_is)
    (case cI6 => k_is)
    (case kI6 => k_is)
    (case iC7 => k_is)
    (case tI7 => k_is)
    (case lI7 => k_is)
    (case cI7 => k_is)
    (case kI7 => k_is)
    (case iC8 => k_is)
    (case tI8 => k_is)
    (case lI8 => k_is)
    (case cI8 => k_is)
    (case kI8 => k_is)
    (case iC9 => k_is)
    (case tI9 => k_is)
    (case lI9 => k_is)
    (case cI9 => k_is)
    (case kI9 => k_is)
    (case aFpen => k_is)
    (case lFpen => k_is)
    (case cFpen => k_is)
    (case kFpen => k_is)
    (case aFdraw => k_is)
    (case lFdraw => k_is)
    (case cFdraw => k_is)
    (case kFdraw => k_is)
    (case aFkinds => k_is)
    (case lFkinds => k_is)
    (case cFkinds => k_is)
    (case kFkinds => k_is)
    (case aFmade => k_is)
    (case lFmade => k_is)
    (case cFmade => k_is)
    (case kFmade => k_is)
    (case aFfield => k_is)
    (case lFfield => k_is)
    (case cFfield => k_is)
    (case kFfield => k_is)
    (case aFlaw => k_is)
    (case lFlaw => k_is)
    (case cFlaw => k_is)
    (case kFlaw => k_is)
    (case vVValueError => k_is)
    (case vVKeyError => k_is)
    (case vVIndexError => k_is)
    (case vVRuntimeError => k_is)
    (case vVLookupError => k_is)
    (case zlist => k_is)
    (case zlen => k_is)
    (case zisinstance => k_is)
    (case zrange => k_is)
    (case zrepr => k_is)
    (case zValueError => k_is)
    (case zKeyError => k_is)
    (case zIndexError => k_is)
    (case zLookupError => k_is)
    (case zRuntimeError => k_is)
    (case zArithmeticError => k_is)
    (case zTypeError => k_is)
    (case ck0 => kernel_rfl)
    (case ck1 => kernel_rfl)
    (case ck2 => kernel_rfl)
    (case ck3 => kernel_rfl)
    (case ck4 => kernel_rfl)
    (case ck5 => kernel_rfl)
    (case ck6 => kernel_rfl)
    (case ck7 => kernel_rfl)
    (case ck8 => kernel_rfl)
    (case ck9 => kernel_rfl)

