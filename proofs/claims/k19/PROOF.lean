import PyProof.Rows.All
import Wide.All
import OpenK.AllK
import Wide.FinOn
import KE.KStateDown
import Lean
import KE.KIsAll
import KE.KTryMore
import KE.KExcInit
import HandS.ForMost
import HandS.Exc
import HandS.ExcOwn
import HandS.ExcInit
import HandS.ExcIs
import HandS.ExcField
import HandS.IsInst
import HandS.Defaults
import HandS.MakeKw
import KE.KExcIs
import HandS.HeadHook2
import PySem.Challenge.RW_keptedits_k19_errors_created
import HandS.Walk
import HandS.Iter
import HandS.TryOnly
import HandS.Head0
import HandS.Head1
import HandS.Head2
import HandS.HeadEnd
import HandS.HeadHook1
set_option Elab.async false
set_option linter.all false
set_option maxRecDepth 100000
section PE1
set_option maxHeartbeats 4000000
/-! Own exception classes over any built-in base, their objects held as values: made by place or by name, their fields, isinstance. -/
namespace PySem
namespace EXV
open PySem.W PySem.Calls PyProof.Rows PySem.HandSPX Builtin Builtin.ObjectAttr

/-- what is asked of the built-in base B -/
structure BaseX (B newId initId : String) (tl : List Value) : Prop where
  F : ExcBaseFacts B newId initId tl
  S : StoreFacts B tl "object.__setattr__" "object"
theorem base_VE : BaseX "ValueError" "ValueError.__new__" "ValueError.__init__" [.type "ValueError", .type "Exception", .type "BaseException", .type "object"] := ⟨F.excBase_ValueError, F.store_ValueError⟩
theorem base_RE : BaseX "RuntimeError" "RuntimeError.__new__" "RuntimeError.__init__" [.type "RuntimeError", .type "Exception", .type "BaseException", .type "object"] := ⟨F.excBase_RuntimeError, F.store_RuntimeError⟩
theorem base_LE : BaseX "LookupError" "LookupError.__new__" "LookupError.__init__" [.type "LookupError", .type "Exception", .type "BaseException", .type "object"] := ⟨F.excBase_LookupError, F.store_LookupError⟩
theorem base_AE : BaseX "ArithmeticError" "ArithmeticError.__new__" "ArithmeticError.__init__" [.type "ArithmeticError", .type "Exception", .type "BaseException", .type "object"] := ⟨F.excBase_ArithmeticError, F.store_ArithmeticError⟩
theorem taker_none {K : W.Frag} {C : Addr} {f : Str} (h : W.findIn K (.ref C) f = some none) : W.takerIn K C f = some none := by
  unfold W.takerIn
  rw [h] <;> rfl
theorem over_of {K : W.Frag} {C : Addr} {cd : ClassData} {bm tl : List Value} (hcd : W.clsIn K C = some cd) (hm : cd.mro = .ref C :: bm) (ht : W.excTail tl bm = true) : W.excOver K C tl = true := by
  unfold W.excOver
  rw [hcd, Option.any_some, hm]
  simp [ht]
section
variable {prog : Program} {w : World} {A : Around} {R : Result → Shared → Prop} {hp : Heap} {g : Array GenState} {d : Drawn} {t : Nat} {os : OsState} {tl : List Value} {B : String}
/-- self.f = v on an exception that has no dict as yet -/
theorem osa_new {K : W.Frag} {name : Str} {tk : Tok} {v : Value} {x C : Addr} {fv : Array Value} {cd : ClassData} {bm : List Value} (SF : StoreFacts B tl "object.__setattr__" "object")
    (X : K.In hp) (hx : hp.get? x = some { cls := .ref C, data := .fields fv }) (hcd : W.clsIn K C = some cd) (hm : cd.mro = .ref C :: bm) (ht : W.excTail tl bm = true) (hh : cd.hasDict = true) (ha : W.findIn K (.ref C) name = some none)
    (hq : ∀ h' tk' dx, (∀ b o, b ≠ x → hp.get? b = some o → h'.get? b = some o) → hp.objs.size ≤ dx → dx ≠ x → h'.get? x = some { cls := .ref C, dict := some dx, data := .fields fv } →
      h'.Ns1 dx (fun y => if y = name then some v else none) → R (.ok (.ret .none)) ⟨h', g, d, tk', os⟩) :
    codeAny (model prog w) A (.call (.builtin "object.__setattr__") ⟨[.ref x, .str name tk, v], []⟩) R ⟨hp, g, d, t, os⟩ := by
  have hxs : x ≠ hp.objs.size := Nat.ne_of_lt (Heap.lt_size hx)
  have hcls : W.Looks (model prog w) hp (classData C) cd := W.looks_clsIn X hcd
  refine osa_openX (s := ⟨hp, g, d, t, os⟩) (ox := { cls := .ref C, data := .fields fv }) (od := none) SF X ⟨hx, rfl, rfl, trivial⟩ (over_of hcd hm ht) (taker_none ha) fun b => ?_
  obtain ⟨nm, bs, mro, ns, qn, hd, sn, sb, ab, col, del⟩ := cd
  dsimp only at hh
  subst hh
  unfold storeInOwnDict ownDictForStores
  repeat (first | with_reducible refine HandSPX.store_in_new ?_ ?_ | with_reducible refine wpAny_loadPart_at hx ?_ | with_reducible refine hcls.at ?_ | wp_step)
  · exact ⟨_, #[], _, (Heap.get?_update_ne _ _ _ _ hxs.symm).trans (Heap.get?_push_at rfl rfl), rfl, fun e he => absurd he (by simp), fun _ => rfl⟩
  · intro h' tk' hn' hs
    have old : ∀ b o, b ≠ x → hp.get? b = some o → h'.get? b = some o := fun b o hb ho =>
      (hs.2 b (Nat.ne_of_lt (Heap.lt_size ho))).trans ((Heap.get?_update_ne _ _ _ _ hb).trans (Heap.get?_push_of_some _ ho))
    exact hq h' tk' hp.objs.size old (Nat.le_refl _) hxs.symm ((hs.2 x hxs).trans (Heap.get?_update_self _ (Heap.get?_push_of_some _ hx) rfl)) hn'
/-- a further field of an exception that has its dict -/
theorem osa_more {K : W.Frag} {name : Str} {tk : Tok} {v : Value} {x C dx : Addr} {fv : Array Value} {cd : ClassData} {bm : List Value} {m0 : Str → Option Value} {nl : List Str} (SF : StoreFacts B tl "object.__setattr__" "object")
    (X : K.In hp) (hx : hp.get? x = some { cls := .ref C, dict := some dx, data := .fields fv }) (hns : hp.Ns1 dx m0) (hw : Within m0 nl) (hz : nl.length ≤ 1000) (hcd : W.clsIn K C = some cd) (hm : cd.mro = .ref C :: bm) (ht : W.excTail tl bm = true) (hh : cd.hasDict = true)
    (ha : W.findIn K (.ref C) name = some none)
    (hq : ∀ h' tk', (∀ b o, b ≠ dx → hp.get? b = some o → h'.get? b = some o) → h'.Ns1 dx (fun y => if y = name then some v else m0 y) → R (.ok (.ret .none)) ⟨h', g, d, tk', os⟩) :
    codeAny (model prog w) A (.call (.builtin "object.__setattr__") ⟨[.ref x, .str name tk, v], []⟩) R ⟨hp, g, d, t, os⟩ := by
  obtain ⟨oD, _, _, hoD, _, _⟩ := hns.count hw
  have hcls : W.Looks (model prog w) hp (classData C) cd := W.looks_clsIn X hcd
  refine osa_openX (s := ⟨hp, g, d, t, os⟩) (ox := { cls := .ref C, dict := some dx, data := .fields fv }) (od := some oD) SF X ⟨hx, rfl, rfl, hoD⟩ (over_of hcd hm ht) (taker_none ha) fun b => ?_
  obtain ⟨nm, bs, mro, ns, qn, hd, sn, sb, ab, col, del⟩ := cd
  dsimp only at hh
  subst hh
  unfold storeInOwnDict ownDictForStores
  repeat (first | with_reducible refine OEX.store_in_old hns hw hz ?_ | with_reducible refine wpAny_loadPart_at hx ?_ | with_reducible refine hcls.at ?_ | wp_step)
  exact fun h' tk' hn' hs => hq h' tk' (fun b o hb ho => (hs.2 b hb).trans ho) hn'
end

/-! ### C(.., k = v): BaseException.__new__, then the own __init__, by names too -/
section
variable {M : Model} {A : Around} {E : Value → Shared → Prop} {h : Heap} {g : Array GenState} {d : Drawn} {t : Nat} {os : OsState}
variable {nm q : Str} {C N : Addr} {bs bm bmB : List Value} {hdct : Bool} {sn : List Str} {sub : List Value} {ab : Bool} {col : Option Bool} {dd : Option Addr} {k0 k1 k2 k3 k5 : Option Value} {B newId initId : String}
theorem check_new_kw (F : ExcBaseFacts B newId initId bmB) (hT : ∀ X : String, bm.contains (.type X) = bmB.contains (.type X)) {rest : List Value} {kw : List (Str × Value)} {Q : Unit → Shared → Prop}
    (hC : h.get? C = some (excClassObj nm q C N bs bm hdct sn sub ab col dd k0 k1 k2 k3 k5 newId)) (hq : Q () ⟨h, g, d, t, os⟩) : wpAny M A (checkBuiltinCall newId ⟨.ref C :: rest, kw⟩) Q E ⟨h, g, d, t, os⟩ := by
  have hcont : (Value.ref C :: bm).contains (.type B) = true := by rw [List.contains_cons, hT, F.hasB, Bool.or_true]
  have hstar := F.noStar
  simp only [checkBuiltinCall, F.newKind, F.newSplit, F.newRow]
  repeat (first | refine wpAny_loadPart_at hC ?_ | (refine wpAny_isSubtype_exc hC ?_; rw [hcont]) | refine wpAny_staticBase_exc hC ?_ | refine wpAny_madeBy_exc hC ?_ | simp only [bne_self_eq_false, Bool.false_eq_true, if_false] | wp_step)
  exact hq
end
section
variable {prog : Program} {w : World} {A : Around} {E : Value → Shared → Prop} {R : Result → Shared → Prop} {h : Heap} {g : Array GenState} {d : Drawn} {t : Nat} {os : OsState}
variable {nm q : Str} {C N : Addr} {bs bm bmB : List Value} {hdct : Bool} {sn : List Str} {sub : List Value} {ab : Bool} {col : Option Bool} {dd : Option Addr} {k0 k1 k2 k3 k5 : Option Value} {B newId initId : String}
theorem new_kw (F : ExcBaseFacts B newId initId bmB) (hT : ∀ X : String, bm.contains (.type X) = bmB.contains (.type X)) {rest : List Value} {kw : List (Str × Value)}
    (hC : h.get? C = some (excClassObj nm q C N bs bm hdct sn sub ab col dd k0 k1 k2 k3 k5 newId))
    (hq : R (.ok (.ret (.ref (h.objs.size + 1)))) ⟨(h.push { cls := .type "tuple", data := .seq rest.toArray }).push
      { cls := .ref C, data := .fields #[.ref h.objs.size, .none, .none, .none, .bool false, .none] }, g, d, t, os⟩) (hrest : rest.length ≤ sizeLine) :
    codeAny (model prog w) A (.builtin newId ⟨.ref C :: rest, kw⟩) R ⟨h, g, d, t, os⟩ := by
  have hends := F.ends
  have hcB : (Value.ref C :: bm).contains (.type B) = true := by rw [List.contains_cons, hT, F.hasB, Bool.or_true]
  have hcA : (Value.ref C :: bm).contains (.type "AttributeError") = false := by rw [List.contains_cons, hT, F.noAttr]; rfl
  have hcN : (Value.ref C :: bm).contains (.type "NameError") = false := by rw [List.contains_cons, hT, F.noName]; rfl
  refine codeAny_builtinAt F.entry ?_
  unfold Builtin.«BaseException.__new__»
  refine wpAt_bind ?_
  show wpAt _ _ _ (stack >>= _) _ _ _
  refine wpAt_bind (wpAt_stack fun p below => wpAt_of_wpAny ?_)
  wp_walk
  refine wpAt_of_wpAny ?_
  rw [F.owner]
  repeat (first | with_reducible refine wpAny_madeHere_exc F.canon hC ?_ | with_reducible refine wpAny_loadPart_at hC ?_ | (with_reducible refine wpAny_isSubtype_exc hC ?_; first | rw [hcB] | rw [hcA] | rw [hcN]) | wp_step)
  show R _ _
  rw [Heap.size_push]
  exact hq
theorem type_call_kw (F : ExcBaseFacts B newId initId bmB) (hT : ∀ X : String, bm.contains (.type X) = bmB.contains (.type X)) {rest : List Value} {kw : List (Str × Value)} {fI : Addr} {Q : Fin → Shared → Prop}
    (hC : h.get? C = some (excClassObj nm q C N bs bm hdct sn sub ab col dd k0 k1 k2 k3 k5 newId))
    (hi : W.Looks (model prog w) h (typeLookup (.ref C) "__init__") (some (.ref fI))) (hb : ∀ self, W.Looks (model prog w) h (bindSpecial (.ref fI) self) (.ref fI, [self])) (hrest : rest.length ≤ sizeLine)
    (hq : codeAny (model prog w) A (.call (.ref fI) ⟨.ref (h.objs.size + 1) :: rest, kw⟩)
      (fun r s' => match r with | .ok (.ret v) => v = .none ∧ Q (.done (.ret (.ref (h.objs.size + 1)))) s' | .ok _ => False | .error e => E e s')
      ⟨(h.push (W.kdv_tup rest)).push (excO C h.objs.size), g, d, t, os⟩) :
    wpAny (model prog w) A (Builtin.«type.__call__» ⟨.ref C :: rest, kw⟩) Q E ⟨h, g, d, t, os⟩ := by
  repeat (first | with_reducible refine wpAny_loadPart_at hC ?_ | with_reducible refine wpAny_madeBy_exc hC ?_ | wp_step)
  refine codeAny_call_builtin_code (Code.quiet_builtin _ F.quiet) (check_new_kw F hT hC ?_)
  refine new_kw F hT hC ?_ hrest
  show wpAny _ _ _ _ _ _
  have k : ∀ b o, h.get? b = some o → ((h.push (W.kdv_tup rest)).push (excO C h.objs.size)).get? b = some o := fun b o e => Heap.get?_push_of_some _ (Heap.get?_push_of_some _ e)
  have hC₁ := k _ _ hC
  have hget : ((h.push (W.kdv_tup rest)).push (excO C h.objs.size)).get? (h.objs.size + 1) = some (excO C h.objs.size) := by heap_get
  have hcC : (Value.ref C :: bm).contains (.ref C) = true := by simp
  have i1 := hi.keeps k
  have b1 := (hb (.ref (h.objs.size + 1))).keeps k
  unfold isInstance
  repeat (first | with_reducible refine wpAny_loadPart_at hget ?_ | (with_reducible refine wpAny_isSubtype_exc hC₁ ?_; rw [hcC]) | wp_step)
  show wpAny _ _ (typeLookup (.ref C) _) _ _ _
  refine i1.at ?_
  refine wpAny_holding (wpAny_bind (b1.at ?_))
  refine wpAny_bind (wpAny_call (codeAny_mono hq fun r s' z => ?_))
  rcases r with e | (v | _ | _ | _) <;> first | exact z | exact z.elim | skip
  obtain ⟨rfl, z⟩ := z
  first
    | exact wpAny_pure (wpAny_pure z)
    | (wp_walk; exact z)
theorem call_kw (F : ExcBaseFacts B newId initId bmB) (hT : ∀ X : String, bm.contains (.type X) = bmB.contains (.type X)) {rest : List Value} {kw : List (Str × Value)} {fI : Addr}
    (hC : h.get? C = some (excClassObj nm q C N bs bm hdct sn sub ab col dd k0 k1 k2 k3 k5 newId))
    (hi : W.Looks (model prog w) h (typeLookup (.ref C) "__init__") (some (.ref fI))) (hb : ∀ self, W.Looks (model prog w) h (bindSpecial (.ref fI) self) (.ref fI, [self])) (hrest : rest.length ≤ sizeLine)
    (hq : codeAny (model prog w) (A.under (.builtin "type.__call__" ⟨.ref C :: rest, kw⟩)) (.call (.ref fI) ⟨.ref (h.objs.size + 1) :: rest, kw⟩) (W.InitBack (h.objs.size + 1) R)
      ⟨(h.push (W.kdv_tup rest)).push (excO C h.objs.size), g, d, t, os⟩) :
    codeAny (model prog w) A (.call (.ref C) ⟨rest, kw⟩) R ⟨h, g, d, t, os⟩ := by
  have f1 := tc_lookup
  have f2 := tc_bind (.ref C)
  have hTy : (⟨h, g, d, t, os⟩ : Shared).TypeIs (.ref C) "type" := ⟨_, hC, rfl⟩
  refine codeAny_of_tree ?_
  show wpAny _ _ (callAny (.ref C) _) _ _ _
  repeat (any_goals (first | assumption | with_reducible refine wpAny_loadPart_at hC ?_ | wp_step))
  refine ⟨rfl, ?_⟩
  refine codeAny_call_builtin_at (Code.quiet_builtin _ (by decide +kernel)) entry_typeCall (wpAny_check_type_call_sub hC (type_call_kw F hT hC hi hb hrest ?_))
  refine codeAny_mono hq fun r s' z => ?_
  rcases r with e | (v | _ | _ | _) <;> exact z
end
end EXV
end PySem

end PE1
section PE2
set_option maxHeartbeats 4000000
namespace L2
open PySem PySem.Spec PyProof.Rows
/-- what the written part says of an own exception class -/
structure XC (K : PySem.W.Frag) (C : Addr) : Prop where
  cls : ∃ B newId initId tl nm q N bs bm sn sub ab col dd k0 k1 k2 k3 k5, PySem.EXV.BaseX B newId initId tl ∧ K.lookup C = some (excClassObj nm q C N bs bm true sn sub ab col dd k0 k1 k2 k3 k5 newId) ∧ PySem.W.excTail tl bm = true
  sa : PySem.W.findIn K (.ref C) "__setattr__" = some (some (.builtin "object.__setattr__"))
  exC : PySem.W.subIn K (.ref C) (.type "BaseException") = some true
  tyC : PySem.W.typeIn K (.ref C) = some (.type "type")
  kC : PySem.W.keepIn K (.ref C) = true
  ga : PySem.W.findIn K (.ref C) "__getattribute__" = some (some (.builtin "BaseException.__getattribute__"))
  gg : PySem.W.findIn K (.ref C) "__getattr__" = some none
  hd : PySem.W.hasDictIn K C = true
  ha : PySem.W.findIn K (.ref C) "__class__" = some (some (.builtin "object.__class__"))
  hn : PySem.W.specialIn K (.builtin "object.__class__") "__get__" = some (some (.builtin "getset_descriptor.__get__"))
  ht : PySem.W.takesIn K (.builtin "object.__class__") = some true
  hm : PySem.W.mroIn K C (.type "object") = some true
def xInit (K : PySem.W.Frag) (C : Addr) : Bool :=
  PySem.W.excInitIn K C [.type "ValueError", .type "Exception", .type "BaseException", .type "object"] "ValueError.__new__" || (PySem.W.excInitIn K C [.type "LookupError", .type "Exception", .type "BaseException", .type "object"] "LookupError.__new__" ||
  (PySem.W.excInitIn K C [.type "RuntimeError", .type "Exception", .type "BaseException", .type "object"] "RuntimeError.__new__" || PySem.W.excInitIn K C [.type "ArithmeticError", .type "Exception", .type "BaseException", .type "object"] "ArithmeticError.__new__"))
def xcB (K : PySem.W.Frag) (C : Addr) : Bool :=
  xInit K C && (decide (PySem.W.findIn K (.ref C) "__setattr__" = some (some (.builtin "object.__setattr__"))) && (decide (PySem.W.subIn K (.ref C) (.type "BaseException") = some true) && (decide (PySem.W.typeIn K (.ref C) = some (.type "type")) &&
  (PySem.W.keepIn K (.ref C) && (decide (PySem.W.findIn K (.ref C) "__getattribute__" = some (some (.builtin "BaseException.__getattribute__"))) && (decide (PySem.W.findIn K (.ref C) "__getattr__" = some none) && (PySem.W.hasDictIn K C &&
  (decide (PySem.W.findIn K (.ref C) "__class__" = some (some (.builtin "object.__class__"))) && (decide (PySem.W.specialIn K (.builtin "object.__class__") "__get__" = some (some (.builtin "getset_descriptor.__get__"))) &&
  (decide (PySem.W.takesIn K (.builtin "object.__class__") = some true) && decide (PySem.W.mroIn K C (.type "object") = some true)))))))))))
theorem xInit_one {K : PySem.W.Frag} {C : Addr} {tl : List Value} {newId : String} (q : PySem.W.excInitIn K C tl newId = true) (hd : PySem.W.hasDictIn K C = true) :
    ∃ nm qn N bs bm sn sub ab col dd k0 k1 k2 k3 k5, K.lookup C = some (excClassObj nm qn C N bs bm true sn sub ab col dd k0 k1 k2 k3 k5 newId) ∧ PySem.W.excTail tl bm = true := by
  unfold PySem.W.excInitIn at q
  unfold PySem.W.hasDictIn PySem.W.clsIn at hd
  split at q
  · rename_i dd cd sl ho
    split at q
    · rename_i C' bm k0 k1 k2 k3 n k5 hm hs
      simp only [Bool.and_eq_true, beq_iff_eq, Bool.not_eq_true'] at q
      obtain ⟨⟨⟨rfl, rfl⟩, hdel⟩, ht⟩ := q
      obtain ⟨nm, bs, mro, ns, qn, hdct, sn, sub, ab, col, del⟩ := cd
      dsimp only at hm hdel
      subst hm hdel
      have hsl : sl = #[k0, k1, k2, k3, some (.builtin n), k5] := by
        obtain ⟨l⟩ := sl
        simp only at hs
        rw [hs]
      subst hsl
      rw [ho] at hd
      have hh : hdct = true := hd
      subst hh
      exact ⟨nm, qn, ns, bs, bm, sn, sub, ab, col, dd, k0, k1, k2, k3, k5, ho, ht⟩
    · cases q
  · cases q
theorem xcB_ok {K : PySem.W.Frag} {C : Addr} (h : xcB K C = true) : XC K C := by
  obtain ⟨h0, h⟩ := Bool.and_eq_true_iff.mp h
  obtain ⟨h1, h⟩ := Bool.and_eq_true_iff.mp h
  obtain ⟨h2, h⟩ := Bool.and_eq_true_iff.mp h
  obtain ⟨h3, h⟩ := Bool.and_eq_true_iff.mp h
  obtain ⟨h4, h⟩ := Bool.and_eq_true_iff.mp h
  obtain ⟨h5, h⟩ := Bool.and_eq_true_iff.mp h
  obtain ⟨h6, h⟩ := Bool.and_eq_true_iff.mp h
  obtain ⟨h7, h⟩ := Bool.and_eq_true_iff.mp h
  obtain ⟨h8, h⟩ := Bool.and_eq_true_iff.mp h
  obtain ⟨h9, h⟩ := Bool.and_eq_true_iff.mp h
  obtain ⟨h10, h11⟩ := Bool.and_eq_true_iff.mp h
  refine ⟨?_, of_decide_eq_true h1, of_decide_eq_true h2, of_decide_eq_true h3, h4, of_decide_eq_true h5, of_decide_eq_true h6, h7, of_decide_eq_true h8, of_decide_eq_true h9, of_decide_eq_true h10, of_decide_eq_true h11⟩
  rcases Bool.or_eq_true_iff.mp h0 with q | q
  · obtain ⟨nm, qn, N, bs, bm, sn, sub, ab, col, dd, k0, k1, k2, k3, k5, e, t⟩ := xInit_one q h7
    exact ⟨_, _, _, _, nm, qn, N, bs, bm, sn, sub, ab, col, dd, k0, k1, k2, k3, k5, PySem.EXV.base_VE, e, t⟩
  · rcases Bool.or_eq_true_iff.mp q with q | q
    · obtain ⟨nm, qn, N, bs, bm, sn, sub, ab, col, dd, k0, k1, k2, k3, k5, e, t⟩ := xInit_one q h7
      exact ⟨_, _, _, _, nm, qn, N, bs, bm, sn, sub, ab, col, dd, k0, k1, k2, k3, k5, PySem.EXV.base_LE, e, t⟩
    · rcases Bool.or_eq_true_iff.mp q with q | q
      · obtain ⟨nm, qn, N, bs, bm, sn, sub, ab, col, dd, k0, k1, k2, k3, k5, e, t⟩ := xInit_one q h7
        exact ⟨_, _, _, _, nm, qn, N, bs, bm, sn, sub, ab, col, dd, k0, k1, k2, k3, k5, PySem.EXV.base_RE, e, t⟩
      · obtain ⟨nm, qn, N, bs, bm, sn, sub, ab, col, dd, k0, k1, k2, k3, k5, e, t⟩ := xInit_one q h7
        exact ⟨_, _, _, _, nm, qn, N, bs, bm, sn, sub, ab, col, dd, k0, k1, k2, k3, k5, PySem.EXV.base_AE, e, t⟩

/-! ### an exception object as a value -/
/-- at a: an exception of the class at C with these fields -/
def IsX (H : Hp) (C : Addr) (fs : List (Str × V)) (a : Addr) : Prop := (fs = [] ∧ H a = some (exo a C none)) ∨ ∃ dx, H a = some (exo a C (some dx)) ∧ H dx = some (exd dx fs)
theorem IsX.same {H H' : Hp} {C a : Addr} {fs : List (Str × V)} (s : Same H H') (h : IsX H C fs a) : IsX H' C fs a := by
  rcases h with ⟨e, h⟩ | ⟨dx, h1, h2⟩
  · exact .inl ⟨e, s _ _ h⟩
  · exact .inr ⟨dx, s _ _ h1, s _ _ h2⟩

section
variable {X : Cx} {pins : List (Addr × Obj)} {σ : St} {H : Hp} {s : Shared} {a C dx : Addr} {f : Str} {y : V} {u : Value} {fs : List (Str × V)} {Q : Unit → Shared → Prop} {E : Value → Shared → Prop} {A : Around}
/-- self.f = y, the first one -/
theorem xst_new (T : XC X.K C) (I : Inv X pins σ H s) (e : H a = some (exo a C none)) (hno : PySem.W.findIn X.K (.ref C) f = some none) (ry : RelV y u)
    (h : ∀ dx s', H dx = none → dx ≠ a → Inv X pins σ (upd (upd H dx (exd dx [(f, y)])) a (exo a C (some dx))) s' → Q () s') : wpAny (model X.prog X.w) A (setAttr (.ref a) f u) Q E s := by
  obtain ⟨B, newId, initId, tl, nm, q, N, bs, bm, sn, sub, ab, col, dd, k0, k1, k2, k3, k5, BX, hC, hbm⟩ := T.cls
  have hcl : PySem.W.clsIn X.K C = some { name := nm, bases := bs, mro := .ref C :: bm, ns := N, qualname := q, hasDict := true, slotNames := sn, subclasses := sub, abstract := ab, collection := col, hasDel := false } := by unfold PySem.W.clsIn; rw [hC] <;> rfl
  obtain ⟨t1, ho⟩ := exo_at I.hok e
  obtain ⟨hp, g, d, t, os⟩ := s
  refine PySem.W.set_plain I.kIn (ox := { cls := .ref C, dict := none, data := .fields #[.ref t1, .none, .none, .none, .bool false, .none] }) (od := none) ⟨ho, rfl, rfl, trivial⟩ T.sa ?_
  refine PySem.EXV.osa_new BX.S I.kIn ho hcl rfl hbm rfl hno (fun h' tk' dx k dn dne hx hn => ?_)
  have hnd : H dx = none := I.hok.fresh dn
  have nd : ∀ {b : Addr} {o : Obj}, hp.get? b = some o → b ≠ dx := fun {b o} q => Nat.ne_of_lt (Nat.lt_of_lt_of_le (Heap.lt_size q) dn)
  have na : ∀ {b : Addr}, H b = none → b ≠ a := fun {b} n z => by
    rw [z, e] at n
    cases n
  have Un1 : Un X.fs [] H (upd (upd H dx (exd dx [(f, y)])) a (exo a C (some dx))) hp h' := {
    keep := fun b o q n _ _ => k b o (na n) q
    slot := fun b o q n _ _ => ⟨o.slots, k b o (na n) q⟩
    free := fun b o q n _ => by rw [upd_ne (na n), upd_ne (nd q)]; exact n
    there := fun b o q _ => by
      by_cases hb : b = a
      · exact ⟨_, by rw [hb]; exact hx⟩
      · exact ⟨o, k b o hb q⟩
    tups := fun b xs q => by rw [upd_ne (at_ne e q exo_tup), upd_ne (ne_of_none q hnd)]; exact q
    frzs := fun b o v q => by rw [upd_ne (at_ne e q exo_frz), upd_ne (ne_of_none q hnd)]; exact q
    tbls := fun b ps q => ⟨#[], by rw [upd_ne (at_ne e q exo_tbl), upd_ne (ne_of_none q hnd), q]; simp⟩ }
  refine h dx _ hnd dne (I.un (t' := tk') Un1 fun b o q => ?_)
  by_cases hb : b = a
  · subst hb
    rw [upd_same] at q
    cases q
    exact exo_ok hx
  · rw [upd_ne hb] at q
    by_cases hd : b = dx
    · subst hd
      rw [upd_same] at q
      cases q
      exact exd_ok hn (relO_put (fs := []) ry fun g => True.intro)
    · rw [upd_ne hd] at q
      exact (I.hok b o q).stay (fun c v hc z => k c v (by
          rcases hc with hc | hc
          · rw [hc]
            exact hb
          · exact at_ne e hc exo_own) z)
        (fun c hc => by rw [upd_ne (at_ne e hc exo_own), upd_ne (ne_of_none hc hnd)]; exact hc) (fun c xs hc => by rw [upd_ne (at_ne e hc exo_tup), upd_ne (ne_of_none hc hnd)]; exact hc)
/-- self.f = y, a further one -/
theorem xst_more (T : XC X.K C) (I : Inv X pins σ H s) (e : H a = some (exo a C (some dx))) (ed : H dx = some (exd dx fs)) (hl : fs.length ≤ 900) (hno : PySem.W.findIn X.K (.ref C) f = some none) (ry : RelV y u)
    (h : ∀ s', Inv X pins σ (upd H dx (exd dx ((f, y) :: fs))) s' → Q () s') : wpAny (model X.prog X.w) A (setAttr (.ref a) f u) Q E s := by
  obtain ⟨B, newId, initId, tl, nm, q, N, bs, bm, sn, sub, ab, col, dd, k0, k1, k2, k3, k5, BX, hC, hbm⟩ := T.cls
  have hcl : PySem.W.clsIn X.K C = some { name := nm, bases := bs, mro := .ref C :: bm, ns := N, qualname := q, hasDict := true, slotNames := sn, subclasses := sub, abstract := ab, collection := col, hasDel := false } := by unfold PySem.W.clsIn; rw [hC] <;> rfl
  obtain ⟨t1, ho⟩ := exo_at I.hok e
  obtain ⟨mA, hns, rel⟩ := exd_at I.hok ed
  have hw := within_of rel
  obtain ⟨hp, g, d, t, os⟩ := s
  obtain ⟨oD, _, _, hoD, _, _⟩ := hns.count hw
  refine PySem.W.set_plain I.kIn (ox := { cls := .ref C, dict := some dx, data := .fields #[.ref t1, .none, .none, .none, .bool false, .none] }) (od := some oD) ⟨ho, rfl, rfl, hoD⟩ T.sa ?_
  refine PySem.EXV.osa_more BX.S I.kIn ho hns hw (by rw [List.length_map]; omega) hcl rfl hbm rfl hno (fun h' tk' k hn => ?_)
  have hd : ∃ o, h'.get? dx = some o := by
    obtain ⟨o, _, _, e', _⟩ := hn
    exact ⟨o, e'⟩
  exact h _ (I.write (t' := tk') (x := dx) (e := dx) (o := exd dx ((f, y) :: fs)) (by rw [ed]; exact True.intro) (.inl rfl) k hd (exd_ok hn (relO_put ry rel)))
end
/-- self.f = e, self an exception that is being made -/
def tXst (K : PySem.W.Frag) (f : Str) (to te : TE) : TS := fun D σ H => te σ H fun y H1 => to σ H1 fun x H2 => ∃ a C : Addr, x = .ref a ∧ XC K C ∧ PySem.W.findIn K (.ref C) f = some none ∧
  ((H2 a = some (exo a C none) ∧ ∀ dx, H2 dx = none → dx ≠ a → D.nx σ (upd (upd H2 dx (exd dx [(f, y)])) a (exo a C (some dx)))) ∨
    ∃ (dx : Addr) (fs : List (Str × V)), H2 a = some (exo a C (some dx)) ∧ H2 dx = some (exd dx fs) ∧ fs.length ≤ 900 ∧ D.nx σ (upd H2 dx (exd dx ((f, y) :: fs))))
section
variable {X : Cx} {o e : Expr} {es : List Expr} {to te : TE} {ta : TA} {f : Str} {p p' p1 p2 pos : Pos}
theorem ps_xst (ho : PE X o to) (he : PE X e te) (hs : swapsWith e (some (.Attribute o f p')) pos.line X.env = pure false := by rfl) : PS X (.Assign [.Attribute o f p'] e pos) (tXst X.K f to te) := by
  refine ⟨fun pins s σ H D I h => ?_⟩
  refine plainObj_wpAny_Assign_Attribute (thn (he.run pins s σ H _ I h) fun v s1 ⟨y, H1, I1, r1, q1⟩ => thn (ho.run pins s1 σ H1 _ I1 q1) fun u s2 ⟨x, H2, I2, r2, a, C, ex, T, hno, q⟩ => ?_) hs
  subst ex
  obtain rfl : u = Value.ref a := r2
  rcases q with ⟨ea, q⟩ | ⟨dx, fs, ea, ed, hl, q⟩
  · exact xst_new T I2 ea hno r1 fun dx s' n ne J => ⟨σ, _, J, q dx n ne⟩
  · exact xst_more T I2 ea ed hl hno r1 fun s' J => ⟨σ, _, J, q⟩
end
end L2

end PE2
section PE3
set_option maxHeartbeats 4000000
namespace L2
open PySem PySem.Spec PyProof.Rows
/-- a def without defaults, called with keywords -/
theorem FunD.kbn {K : PySem.W.Frag} {x qual : Str} {params : Arguments} {body : List Stmt} {scope : Scope} {kws : List (Str × V)} {f : Addr} {fd : FuncData} {ps ks : List Str} (F : FunD K x qual params body scope [] kws f fd) (n : Nat) (g : {α : Type} → List α → List α → List α)
    (hrel : ∀ {vs zs : List V} {us ws : List Value}, Vals vs us → Vals zs ws → Vals (g vs zs) (g us ws))
    (h : ∀ (kV doc pm : Value) (an : Option Addr) (cdv ct : Value) (us ws : List Value), us.length = n → ws.length = ks.length → bindArgs (PySem.W.fnOf x qual params body scope .none kV doc pm an cdv ct) ⟨us, ks.zip ws⟩ = pure (ps.zip (g us ws))) :
    KBn K fd ps n ks (fun us ws => g us ws) (fun vs zs => g vs zs) := by
  obtain ⟨oc, od, dV, kV, doc, pm, an, cdv, ct, osl, rfl, lk, hcd, hD, hK⟩ := F.ex
  rcases hD with ⟨_, rfl⟩ | ⟨e, _⟩
  · exact ⟨fun s us ws X l1 l2 => .of_eq (h kV doc pm an cdv ct us ws l1 l2), fun r1 r2 => hrel r1 r2⟩
  · exact absurd rfl e
/-- C(e, .., k = v, ..), C an own exception class: a new object, then __init__ keeping sp -/
def tXmk (C : Addr) (n m : Nat) (sp : Sp) (gV : List V → List V → List V) (t tk : TA) : TE := fun σ H Q => t σ H fun vs H1 => tk σ H1 fun zs H2 => vs.length = n ∧ zs.length = m ∧
  ∀ a, H2 a = none → sp (gV (.ref a :: vs) zs) (upd H2 a (exo a C none)) (fun v H3 => v = .non ∧ Q (.ref a) H3) E0
section
variable {X : Cx} {CX : CXT} {k n : Nat} {fI C : Addr} {fd : FuncData} {ps ks : List Str} {sp : Sp} {x : Str} {p pos : Pos} {e : Expr} {es : List Expr} {kws : List Keyword} {t tk : TA} {g : List Value → List Value → List Value} {gV : List V → List V → List V}
theorem run_xmk {pins : List (Addr × Obj)} {σ : St} {H : Hp} {s : Shared} {Q : VK} {us ws : List Value} {vs zs : List V} (T : XC X.K C) (iC : PySem.W.findIn X.K (.ref C) "__init__" = some (some (.ref fI))) (tI : PySem.W.typeIn X.K (.ref fI) = some (.type "function"))
    (F : FnOk X.prog X.w X.K X.mg X.base CX k fI fd ps sp) (hr : Room (k + 1) X.A) (hb : KBn X.K fd ps (n + 1) ks g gV) (hx : Passes CX X E0) (hn : n ≤ 1000) (I : Inv X pins σ H s) (r : Vals vs us) (rz : Vals zs ws) (l1 : vs.length = n) (l2 : zs.length = ks.length)
    (h : ∀ a, H a = none → sp (gV (.ref a :: vs) zs) (upd H a (exo a C none)) (fun v H2 => v = .non ∧ Q (.ref a) H2) E0) :
    wpAny (model X.prog X.w) X.A (call (.ref C) us (ks.zip ws)) (EP X pins σ Q) X.xe s := by
  obtain ⟨B, newId, initId, tl, nm, q, N, bs, bm, sn, sub, ab, col, dd, k0, k1, k2, k3, k5, BX, hC, hbm⟩ := T.cls
  obtain ⟨hp, gs, dr, tk', os⟩ := s
  have hsz : hp.objs.size ≤ hp.objs.size + 1 := Nat.le_succ _
  have hn1 : H (hp.objs.size + 1) = none := I.hok.fresh hsz
  have hq := h (hp.objs.size + 1) hn1
  have kk : ∀ b o, hp.get? b = some o → ((hp.push (PySem.W.kdv_tup us)).push (PySem.HandSPX.excO C hp.objs.size)).get? b = some o := fun b o e => Heap.get?_push_of_some _ (Heap.get?_push_of_some _ e)
  have hget : ((hp.push (PySem.W.kdv_tup us)).push (PySem.HandSPX.excO C hp.objs.size)).get? (hp.objs.size + 1) = some (PySem.HandSPX.excO C hp.objs.size) := by heap_get
  have I2 : Inv X pins σ (upd H (hp.objs.size + 1) (exo (hp.objs.size + 1) C none)) ⟨(hp.push (PySem.W.kdv_tup us)).push (PySem.HandSPX.excO C hp.objs.size), gs, dr, tk', os⟩ :=
    I.laid (t' := tk') (a := hp.objs.size + 1) (o := exo (hp.objs.size + 1) C none) (h' := (hp.push (PySem.W.kdv_tup us)).push (PySem.HandSPX.excO C hp.objs.size)) kk hsz (exo_ok hget)
  have r1 : Vals (V.ref (hp.objs.size + 1) :: vs) (Value.ref (hp.objs.size + 1) :: us) := .cons rfl r
  have r2 := hb.rel r1 rz
  have e1 : (Value.ref (hp.objs.size + 1) :: us).length = n + 1 := r1.length.symm.trans (congrArg Nat.succ l1)
  have e2 : ws.length = ks.length := rz.length.symm.trans l2
  have hus : us.length ≤ sizeLine := by
    rw [← r.length, l1]
    exact Nat.le_trans hn (by decide)
  refine wpAny_call (PySem.EXV.call_kw BX.F (fun Y => PySem.W.excTail_contains Y bm hbm) (I.kIn _ _ hC) (PySem.W.looks_findIn I.kIn iC) (fun self => PySem.W.bind_fn I.kIn self tI) hus
    (codeAny_mono (F.run _ X.stack _ _ ⟨Value.ref (hp.objs.size + 1) :: us, ks.zip ws⟩ (g (Value.ref (hp.objs.size + 1) :: us) ws) _ _ E0 (hr.make C us (ks.zip ws)) (I2.env0.make C us (ks.zip ws)) (hb.to _ (Value.ref (hp.objs.size + 1) :: us) ws I2.kIn e1 e2) r2 hq) fun r s' hq' => ?_))
  cases r with
  | error er => exact hx pins σ _ _ er s' I2 hq'
  | ok fl =>
    cases fl with
    | ret u =>
      obtain ⟨v, H', I3, rv, ev, q3⟩ := I2.after hq'
      subst ev
      exact ⟨rv, ⟨V.ref (hp.objs.size + 1), H', I3, rfl, q3⟩⟩
    | next => exact False.elim hq'
    | brk => exact False.elim hq'
    | cont => exact False.elim hq'
/-- C(e, ..) -/
theorem pe_xmk (T : XC X.K C) (iC : PySem.W.findIn X.K (.ref C) "__init__" = some (some (.ref fI))) (tI : PySem.W.typeIn X.K (.ref fI) = some (.type "function"))
    (F : FnOk X.prog X.w X.K X.mg X.base CX k fI fd ps sp) (hr : Room (k + 1) X.A) (hb : KBn X.K fd ps (n + 1) [] g gV) (hx : Passes CX X E0) (hn : n ≤ 1000) (hg : Gl X x) (hm : X.mg x = some (.ref C)) (ha : PA X (e :: es) t)
    (hdb : (x == ("__debug__" : Str)) = false := by decide) (he : starEach (e :: es) X.env = (false, eval e X.env) :: starEach es X.env := by rfl) (hpl : (backTo pos (starEach es X.env)).any (·.1) = false := by rfl) :
    PE X (.Call (.Name x p) (e :: es) [] pos) (tXmk C n 0 sp gV t tNil) := by
  refine ⟨fun pins s σ H Q I h => ?_⟩
  refine wpAny_Call_Name_kw (ld_glob I hg hm ?_ hdb)
  refine PySem.W.callWith_K (h₀ := X.base) I.ok.mod.kin T.kC (thn (ha.run pos pins s σ H _ I h) fun us s1 ⟨vs, H1, I1, r1, q1⟩ => ⟨I1.kIn, ?_⟩) he hpl
  obtain ⟨l1, l2, q2⟩ := q1
  exact run_xmk (ws := []) (zs := []) (ks := []) T iC tI F hr hb hx hn I1 r1 .nil l1 rfl q2
/-- C() -/
theorem pe_xmk0 (T : XC X.K C) (iC : PySem.W.findIn X.K (.ref C) "__init__" = some (some (.ref fI))) (tI : PySem.W.typeIn X.K (.ref fI) = some (.type "function"))
    (F : FnOk X.prog X.w X.K X.mg X.base CX k fI fd ps sp) (hr : Room (k + 1) X.A) (hb : KBn X.K fd ps 1 [] g gV) (hx : Passes CX X E0) (hg : Gl X x) (hm : X.mg x = some (.ref C)) 
    (hdb : (x == ("__debug__" : Str)) = false := by decide) (hpl : ((backTo pos (starEach [] X.env)).any (·.1) || (backToKw pos (keywordEach [] X.env)).any (·.1.isNone)) = false := by rfl) :
    PE X (.Call (.Name x p) [] [] pos) (tXmk C 0 0 sp gV tNil tNil) := by
  refine ⟨fun pins s σ H Q I h => ?_⟩
  refine wpAny_Call_Name_kw (ld_glob I hg hm ?_ hdb)
  refine PySem.W.callWith_KW0 (h₀ := X.base) I.ok.mod.kin T.kC rfl ?_ hpl
  obtain ⟨l1, l2, q2⟩ := (show tXmk C 0 0 sp gV tNil tNil σ H Q from h)
  refine wpAny_pure ⟨I.kIn, ?_⟩
  exact run_xmk (us := []) (vs := []) (ws := []) (zs := []) (ks := []) T iC tI F hr hb hx (Nat.zero_le _) I .nil .nil rfl rfl q2
/-- C(k = v, ..) -/
theorem pe_xmkK (T : XC X.K C) (iC : PySem.W.findIn X.K (.ref C) "__init__" = some (some (.ref fI))) (tI : PySem.W.typeIn X.K (.ref fI) = some (.type "function"))
    (F : FnOk X.prog X.w X.K X.mg X.base CX k fI fd ps sp) (hr : Room (k + 1) X.A) (hb : KBn X.K fd ps 1 ks g gV) (hx : Passes CX X E0) (hg : Gl X x) (hm : X.mg x = some (.ref C)) (hkw : PK X kws tk)
    (hall : (backToKw pos (keywordEach kws X.env)).all (·.1.isSome) = true := by rfl) (hks : (backToKw pos (keywordEach kws X.env)).filterMap (·.1) = ks := by rfl) (hdb : (x == ("__debug__" : Str)) = false := by decide)
    (hpl : ((backTo pos (starEach [] X.env)).any (·.1) || (backToKw pos (keywordEach kws X.env)).any (·.1.isNone)) = false := by rfl) :
    PE X (.Call (.Name x p) [] kws pos) (tXmk C 0 ks.length sp gV tNil tk) := by
  refine ⟨fun pins s σ H Q I h => ?_⟩
  refine wpAny_Call_Name_kw (ld_glob I hg hm ?_ hdb)
  refine PySem.W.callWith_KW0 (h₀ := X.base) I.ok.mod.kin T.kC hall ?_ hpl
  refine thn (hkw.run pos pins s σ H _ I h) fun ws s2 ⟨zs, H2, I2, rz, l1, l2, q2⟩ => ⟨I2.kIn, ?_⟩
  rw [hks]
  exact run_xmk (us := []) (vs := []) T iC tI F hr hb hx (Nat.zero_le _) I2 .nil rz rfl l2 q2
end

/-! ### e.f, isinstance(e, C) -/
/-- e.f of an exception that is tracked -/
def tXat (K : PySem.W.Frag) (f : Str) (te : TE) : TE := fun σ H Q => te σ H fun x H1 => ∃ (a C : Addr) (fs : List (Str × V)) (v : V), x = .ref a ∧ XC K C ∧ PySem.W.findIn K (.ref C) f = some none ∧ IsX H1 C fs a ∧ fs.lookup f = some v ∧ Q v H1
theorem pe_xat {X : Cx} {K : PySem.W.Frag} {e : Expr} {te : TE} {pos : Pos} {f : Str} (he : PE X e te) (hb : attributeBase e f X.env (eval e X.env) = eval e X.env := by rfl) (hK : X.K = K := by rfl) : PE X (.Attribute e f pos) (tXat K f te) := by
  subst hK
  refine ⟨fun pins s σ H Q I h => ?_⟩
  refine attr_of hb (thn (he.run pins s σ H _ I h) fun u s1 hh => ?_)
  obtain ⟨x, H1, I1, rx, a, C, fs, v, ex, T, hno, hx, l, q⟩ := hh
  subst ex
  obtain rfl : u = Value.ref a := rx
  rcases hx with ⟨rfl, _⟩ | ⟨dx, ea, ed⟩
  · cases l
  · obtain ⟨t1, ho⟩ := exo_at I1.hok ea
    obtain ⟨mA, hns, rel⟩ := exd_at I1.hok ed
    obtain ⟨od, hod, hl⟩ := lookIn_ns hns
    obtain ⟨w, hw, rw'⟩ := RelO.some_of (v := v) (o := mA f) (by rw [← l]; exact rel f)
    have J : PySem.W.InstAt s1.heap a { cls := .ref C, dict := some dx, data := .fields #[.ref t1, .none, .none, .none, .bool false, .none] } C (some od) := ⟨ho, rfl, rfl, hod⟩
    exact HandSPX.exc_get I1.kIn J T.ga T.gg T.exC (PySem.W.findObj_own T.hd hno rfl (by rw [hl, hw])) (handed_of rw') ⟨v, H1, I1.tok _, rw', q⟩
end L2

end PE3
section PE4
set_option maxHeartbeats 4000000
namespace L2
open PySem PySem.Spec PyProof.Rows
theorem XC.isCls {K : PySem.W.Frag} {C : Addr} (T : XC K C) : (PySem.W.clsIn K C).isSome = true := by
  obtain ⟨cd, hc, _⟩ := PySem.W.any_some T.hd
  rw [hc] <;> rfl
section
variable {X : Cx} {pins : List (Addr × Obj)} {σ : St} {H : Hp} {s : Shared}
theorem kit_x {a C : Addr} {fs : List (Str × V)} (I : Inv X pins σ H s) (T : XC X.K C) (h : IsX H C fs a) : ∃ P : Heap → Prop, PySem.W.KitX X.K (.ref a) (.ref C) P ∧ P s.heap := by
  rcases h with ⟨_, ea⟩ | ⟨dx, ea, ed⟩
  · obtain ⟨t1, ho⟩ := exo_at I.hok ea
    exact ⟨_, PySem.W.kitx_exc (od := none) T.isCls T.ga T.gg T.exC T.ha T.hn T.ht T.hm, ⟨ho, rfl, rfl, trivial⟩⟩
  · obtain ⟨t1, ho⟩ := exo_at I.hok ea
    obtain ⟨mA, ⟨od, es, ep, e1, _⟩, rel⟩ := exd_at I.hok ed
    exact ⟨_, PySem.W.kitx_exc (od := some od) T.isCls T.ga T.gg T.exC T.ha T.hn T.ht T.hm, ⟨ho, rfl, rfl, e1⟩⟩
end
/-- isinstance(e, c), e a tracked exception, c one class -/
def rIsX (K : PySem.W.Frag) : List V → Hp → VK → Prop := fun xs H Q => ∃ (a C : Addr) (fs : List (Str × V)) (c : V) (u : Value) (b : Bool), xs = [.ref a, c] ∧ ClsV c u ∧ XC K C ∧ IsX H C fs a ∧ PySem.W.kitOne K (.ref C) u = some b ∧ Q (.bl b) H
/-- isinstance(e, (c1, c2, ..)) -/
def rIsXT (K : PySem.W.Frag) : List V → Hp → VK → Prop := fun xs H Q => ∃ (a C tp : Addr) (fs : List (Str × V)) (cs : List V) (us : List Value) (b : Bool), xs = [.ref a, .ref tp] ∧ H tp = some (.tup cs) ∧ Paired ClsV cs us ∧ XC K C ∧ IsX H C fs a ∧ PySem.W.kitAny K (.ref C) us = some b ∧ Q (.bl b) H
section
variable {X : Cx}
theorem call_isX : CallR X (.builtin "isinstance") (rIsX X.K) := by
  intro pins s σ H xs us Q I r h
  obtain ⟨a, C, fs, c, u, b, rfl, k, T, hx, e, q⟩ := h
  obtain ⟨u1, u2, rfl, r1, r2⟩ := vals2 r
  have e2 := k.eq r2
  subst e2
  cases (show u1 = Value.ref a from r1)
  obtain ⟨P, Z, p⟩ := kit_x I T hx
  exact PySem.W.kia_one Z I.kIn p e (fun z => nomatch z) fun tk => ⟨.bl b, H, I.tok tk, rfl, q⟩
theorem call_isXT : CallR X (.builtin "isinstance") (rIsXT X.K) := by
  intro pins s σ H xs us Q I r h
  obtain ⟨a, C, tp, fs, cs, ws, b, rfl, hT, k, T, hx, e, q⟩ := h
  obtain ⟨u1, u2, rfl, r1, r2⟩ := vals2 r
  cases (show u1 = Value.ref a from r1)
  cases (show u2 = Value.ref tp from r2)
  obtain ⟨P, Z, p⟩ := kit_x I T hx
  obtain ⟨_, its, rv, o, h1, h2, n, h3⟩ := (show ObjOk X.prog X.w H s.heap tp (.tup cs) from I.hok tp _ hT)
  have e3 := ClsV.all k rv
  subst e3
  obtain ⟨oc, od, dt, sl⟩ := o
  simp only at h2 h3
  subst h2 h3
  exact PySem.W.kia_tup Z I.kIn p h1 e (fun z => nomatch z) fun tk => ⟨.bl b, H, I.tok tk, rfl, q⟩
end
end L2

end PE4
section PE5
set_option maxHeartbeats 4000000
/-! Promises of defs that are called while no repr runs: what repr tells is then told. -/
namespace L2
open PySem PySem.Spec PyProof.Rows
/-- a def keeps sp wherever it is called outside of any repr -/
structure FnG (P : Program) (w : World) (K : PySem.W.Frag) (mg : Str → Option Value) (base : Heap) (CX : CXT) (k : Nat) (f : Addr) (fd : FuncData) (ps : List Str) (sp : Sp) : Prop where
  len : ∀ vs H Q E, sp vs H Q E → vs.length = ps.length
  run : ∀ (A : Around) (outer : List Env) (s : Shared) (H : Hp) (args : Args) (us : List Value) (vs : List V) (Q : VK) (E : XK), A.guards = some [] → Room k A → Env0 P w K mg base A outer s H → BindsTo s fd args (ps.zip us) → Vals vs us → sp vs H Q E →
    codeAny (model P w) A (.call (.ref f) args) (CR CX outer P w H s Q E) s
theorem FnOk.g {P : Program} {w : World} {K : PySem.W.Frag} {mg : Str → Option Value} {base : Heap} {CX : CXT} {k : Nat} {f : Addr} {fd : FuncData} {ps : List Str} {sp : Sp} (F : FnOk P w K mg base CX k f fd ps sp) : FnG P w K mg base CX k f fd ps sp :=
  ⟨F.len, fun A outer s H args us vs Q E _ => F.run A outer s H args us vs Q E⟩
theorem deeper_guards {A : Around} {env : Env} (h : A.guards = some []) : (A.deeper env).guards = some [] := by
  have e : (A.deeper env).guards = A.guards := by rfl
  rw [e, h]
/-- the rule for a def, by its body, the guards told -/
theorem FunD.okG {CX : CXT} {P : Program} {w : World} {K : PySem.W.Frag} {mg : Str → Option Value} {base : Heap} {k : Nat} {f : Addr} {x qual : Str} {params : Arguments} {body : List Stmt} {scope : Scope} {dvs : List V} {kws : List (Str × V)} {fd : FuncData} {N ps : List Str} {sp : Sp}
    (F : FunD K x qual params body scope dvs kws f fd) (S : FnScope N ps scope) (len : ∀ vs H Q E, sp vs H Q E → vs.length = ps.length)
    (hbody : ∀ (cdv : Value) (A : Around) (outer : List Env) (s : Shared) (H : Hp) (vs : List V) (Q : VK) (E : XK), A.guards = some [] → Room k (A.deeper (envOfC qual scope s.heap.objs.size f cdv)) → sp vs H Q E →
      ∃ t, PSs (cxOf CX P w K mg base N qual scope f cdv A outer s H E) body t ∧ t { nx := fun _ H' => Q .non H', rt := Q } (start N vs) H) : FnG P w K mg base CX (k + 1) f fd ps sp := by
  obtain ⟨oc, od, dV, kV, doc, pm, an, cdv, ct, osl, rfl, lk, hcd, _, _⟩ := F.ex
  refine ⟨len, fun A outer s H args us vs Q E hg hr e0 hb r hsp => ?_⟩
  have old : ∀ b o, base.get? b = some o → s.heap.get? b = some o := fun b o e => (e0.bs b o e).1
  have KX : K.In s.heap := e0.mod.kin.keeps old
  have lim : s.heap.NoLimit := e0.mod.nolimit.keeps old
  refine codeAny_call_function hr.depth (KX _ _ lk) rfl S.co S.gen rfl (PySem.W.codeRec_of KX hcd) (hb _ _ _ _ (wpAny_newFunctionEnv_cells S.kind (fun y hy => ?_) fun env he s1 x => ?_))
  · rcases S.par y.1 (List.of_mem_zip (show (y.1, y.2) ∈ ps.zip us from hy)).1 with q | q
    · exact .inl q
    · exact .inr ⟨q, PySem.W.cellsFrom_some _ _ _ (.inl q)⟩
  · subst he
    obtain ⟨t, ht, hq⟩ := hbody cdv A outer s H vs Q E hg (hr.deeper _) hsp
    refine ⟨lim.keeps x.toInCall.keep, codeAny_func (wpAny_mono (ht.run [] s1 (start N vs) H _ (inv_start S hr.hd e0 (len _ _ _ _ hsp) r x) hq) (fun fl s' hs => ?_) fun e s' hs => hs)⟩
    cases fl with
    | ret u =>
      obtain ⟨v, σ', H', J, rv, q⟩ := hs
      exact ⟨v, H', J.os, J.bare, J.base, J.hok, rv, q⟩
    | next =>
      obtain ⟨σ', H', J, q⟩ := hs
      exact ⟨V.non, H', J.os, J.bare, J.base, J.hok, rfl, q⟩
    | brk =>
      obtain ⟨_, _, _, q⟩ := hs
      exact False.elim q
    | cont =>
      obtain ⟨_, _, _, q⟩ := hs
      exact False.elim q
section
variable {X : Cx} {CX : CXT} {k : Nat} {f C : Addr} {fd : FuncData} {ps : List Str} {sp : Sp} {dvs : List V} {ds : List Value} {E : XK} {x m : Str} {p pos apos : Pos} {e o : Expr} {es : List Expr} {ta : TE} {t : TA}
theorem runG {pins : List (Addr × Obj)} {σ : St} {H : Hp} {s : Shared} {Q : VK} {us : List Value} {vs : List V} (F : FnG X.prog X.w X.K X.mg X.base CX k f fd ps sp) (hG : X.A.guards = some []) (hr : Room k X.A) (hb : Binds X.K fd ps ds) (hd : Vals dvs ds) (hx : Passes CX X E)
    (I : Inv X pins σ H s) (r : Vals vs us) (h : sp (vs ++ dvs) H Q E) : wpAny (model X.prog X.w) X.A (call (.ref f) us) (EP X pins σ Q) X.xe s := by
  have r2 : Vals (vs ++ dvs) (us ++ ds) := r.append hd
  have hl : (us ++ ds).length = ps.length := r2.length.symm.trans (F.len _ _ _ _ h)
  refine wpAny_call (codeAny_mono (F.run X.A X.stack s H ⟨us, []⟩ (us ++ ds) (vs ++ dvs) Q E hG hr I.env0 (hb s us I.kIn hl) r2 h) fun r s' hq => ?_)
  cases r with
  | error e => exact hx pins σ H s e s' I hq
  | ok fl =>
    cases fl with
    | ret u => exact I.after hq
    | next => exact False.elim hq
    | brk => exact False.elim hq
    | cont => exact False.elim hq
/-- f(e, ..) where the guards are told -/
theorem pe_callG (F : FnG X.prog X.w X.K X.mg X.base CX k f fd ps sp) (hG : X.A.guards = some []) (hr : Room k X.A) (hg : Gl X x) (hm : X.mg x = some (.ref f)) (hk : PySem.W.keepIn X.K (.ref f) = true) (hb : Binds X.K fd ps ds) (hd : Vals dvs ds) (hx : Passes CX X E)
    (ha : PA X (e :: es) t) (hdb : (x == ("__debug__" : Str)) = false := by decide) (he : starEach (e :: es) X.env = (false, eval e X.env) :: starEach es X.env := by rfl) (hpl : (backTo pos (starEach es X.env)).any (·.1) = false := by rfl) :
    PE X (.Call (.Name x p) (e :: es) [] pos) (tCall sp dvs E t) :=
  ⟨fun pins s σ H Q I h => wpAny_Call_Name_kw (ld_glob I hg hm (PySem.W.callWith_K (h₀ := X.base) I.ok.mod.kin hk (thn (ha.run pos pins s σ H _ I h) fun us s1 ⟨vs, H1, I1, r, q⟩ => ⟨I1.kIn, runG F hG hr hb hd hx I1 r q⟩) he hpl) hdb)⟩
end
/-- a law's call where its def's promise wants the guards -/
theorem law_callG {P : Program} {w : World} {K : PySem.W.Frag} {mg mb : Str → Option Value} {CX : CXT} {k : Nat} {fa a : Addr} {fd : FuncData} {x : Str} {sp : Sp} {s₁ : Shared} {vs : List Value} {ns : List Int}
    (KX : K.In s₁.heap) (hns : s₁.heap.Ns mainGlobals mg) (hb : s₁.heap.Ns builtinsNs mb) (hbb : ∀ x : Str, x ≠ "__name__" → mb x = bootBuiltins x) (hlim : s₁.heap.NoLimit) (hg : s₁.gens = #[])
    (ha : s₁.heap.get? a = some { cls := .type "list", data := .seq vs.toArray }) (hi : IntsAre vs ns) (hl : ns.length ≤ sizeLine) (hr : Room k callerA)
    (F : ∀ base : Heap, K.In base → base.Ns mainGlobals mg → FnG P w K mg base CX k fa fd [x] sp) (hbind : ∀ (s : Shared) (u : Value), BindsTo s fd ⟨[u], []⟩ [(x, u)])
    (hsp : ∀ H : Hp, Only H → SqL K H a (ns.map V.int) → sp [.ref a] H (fun v _ => v = .bl true) fun _ _ _ => False)
    (hCX : ∀ H e s', CX [] H s₁ (fun _ _ _ => False) e s' → False) :
    codeAny (model P w) callerA (.call (.ref fa) ⟨[.ref a], []⟩) (fun r s' => r = .ok (.ret (.bool true)) ∧ OldK s₁.heap s'.heap ∧ s'.os = s₁.os ∧ AllBare s'.gens) s₁ := by
  -- what is tracked at the entry: the script, unless it is one of the module's own objects
  have core : ∀ H : Hp, Only H → SqL K H a (ns.map V.int) → HOk P w H s₁.heap → (∀ b, H b ≠ none → b = a ∧ K.lookup a = none) →
      codeAny (model P w) callerA (.call (.ref fa) ⟨[.ref a], []⟩) (fun r s' => r = .ok (.ret (.bool true)) ∧ OldK s₁.heap s'.heap ∧ s'.os = s₁.os ∧ AllBare s'.gens) s₁ := by
    intro H hO hS hok hA
    have keep : ∀ {b : Addr} {o : Obj}, s₁.heap.get? b = some o → (b = a → K.lookup a = none → False) → (hidT s₁.heap H).get? b = some o := fun {b o} e no => hidT_get e (by
      cases q : H b with
      | none => rfl
      | some u =>
        have z := hA b (by rw [q]; simp)
        exact (no z.1 z.2).elim)
    have nsK : ∀ {b : Addr} {m : Str → Option Value}, s₁.heap.Ns b m → (hidT s₁.heap H).Ns b m := fun {b m} ⟨o, es, ep, e, d, r⟩ => ⟨o, es, ep, keep e (fun z _ => by
      rw [z, ha] at e
      cases e
      cases d), d, r⟩
    have hKb : K.In (hidT s₁.heap H) := fun b o e => keep (KX b o e) fun z n => by
      rw [z, n] at e
      cases e
    obtain ⟨mc, h1, h2⟩ := hlim
    have e0 : Env0 P w K mg (hidT s₁.heap H) callerA [] s₁ H := ⟨rfl, ⟨hKb, nsK hns, ⟨mb, nsK hb, hbb⟩, ⟨mc, nsK h1, h2⟩⟩, fun b o e => of_hidT e, Nat.le_of_eq (hidT_size _ _), trivial, fun b hb => absurd (show b ∈ ([] : List Addr) from hb) (by simp), hok, .of_eq hg⟩
    refine codeAny_mono ((F _ hKb (nsK hns)).run callerA [] s₁ H ⟨[.ref a], []⟩ [.ref a] [.ref a] _ _ rfl hr e0 (hbind s₁ (.ref a)) (.cons rfl .nil) (hsp H hO hS)) fun r s' h => ?_
    cases r with
    | error e => exact (hCX H e s' h).elim
    | ok fl =>
      cases fl with
      | next => exact False.elim h
      | brk => exact False.elim h
      | cont => exact False.elim h
      | ret u =>
        obtain ⟨v, H', os, bare, un, hok', r', q⟩ := h
        cases (show v = .bl true from q)
        cases (show u = Value.bool true from r')
        refine ⟨rfl, OldK.of_keep fun b o e => ?_, os, bare⟩
        cases q : H b with
        | none => exact un.keep b o e q (fun z => absurd (show b ∈ ([] : List Addr) from z) (by simp)) (by simp)
        | some u =>
          obtain ⟨ob, xs, z⟩ : ∃ o xs, H b = some (.frz o (.lst xs)) := (hO b).resolve_left (by rw [q]; simp)
          have e1 := (hok b _ z).1
          rw [e] at e1
          cases e1
          exact (hok' b _ (un.frzs b _ _ z)).1
  have rv := vals_ints hi
  cases hk : K.lookup a with
  | some o =>
    have e := KX a o hk
    rw [ha] at e
    cases e
    exact core (fun _ => none) (fun _ => .inl rfl) (.inr ⟨_, vs.toArray, _, hk, rfl, rfl, rfl, by rw [List.size_toArray, hi.length]; exact hl, by simpa using rv⟩) (fun b u z => by cases (show (none : Option HO) = some u from z)) fun b z => absurd rfl z
  | none =>
    have at_ : ∀ b u, (if b = a then some (HO.frz { cls := .type "list", data := .seq vs.toArray } (.lst (ns.map V.int))) else none) = some u → b = a ∧ u = HO.frz { cls := .type "list", data := .seq vs.toArray } (.lst (ns.map V.int)) := fun b u z => by
      by_cases q : b = a
      · rw [if_pos q] at z
        exact ⟨q, (Option.some.inj z).symm⟩
      · rw [if_neg q] at z
        cases z
    refine core (fun b => if b = a then some (.frz { cls := .type "list", data := .seq vs.toArray } (.lst (ns.map V.int))) else none) (fun b => ?_) (.inl (.inr ⟨{ cls := .type "list", data := .seq vs.toArray }, if_pos rfl⟩)) (fun b u z => ?_) fun b z => ⟨?_, hk⟩
    · by_cases q : b = a
      · exact .inr ⟨_, _, if_pos q⟩
      · exact .inl (if_neg q)
    · obtain ⟨rfl, rfl⟩ := at_ b u z
      exact ⟨ha, by rw [List.length_map]; exact hl, vs, _, rv, ha⟩
    · cases q : (if b = a then some (HO.frz { cls := .type "list", data := .seq vs.toArray } (.lst (ns.map V.int))) else none) with
      | none => exact absurd q z
      | some u => exact (at_ b u q).1
/-- the end of a law -/
theorem walk_ofG {l : PySem.W.OpenLaw} {n k : Nat} {q : Program} {loose : List Str} {XP : (Str → Option Value) → Heap → Prop} {YP : World → Heap → Prop} {d : DefRec} {CX : World → CXT} {x : Str}
    (hn : l.most = some n) (hn2 : n ≤ sizeLine) (hdf : d.params.defaults = []) (hr : Room k callerA)
    (F : ∀ (w : World) (mg : Str → Option Value) (fa : Addr) (h : Heap), YP w h → h.Ns mainGlobals mg → mg d.name = some (.ref fa) →
      ∃ (K : PySem.W.Frag) (fd : FuncData) (sp : Sp), K.In h ∧ (∀ (s : Shared) (u : Value), BindsTo s fd ⟨[u], []⟩ [(x, u)]) ∧
        (∀ (H : Hp) (a : Addr) (ns : List Int), ns.length ≤ n → Only H → SqL K H a (ns.map V.int) → sp [.ref a] H (fun v _ => v = .bl true) fun _ _ _ => False) ∧
        ∀ base : Heap, K.In base → base.Ns mainGlobals mg → FnG l.prog w K mg base (CX w) k fa fd [x] sp)
    (hCX : ∀ (w : World) (H : Hp) (s : Shared) (e : Value) (s' : Shared), CX w [] H s (fun _ _ _ => False) e s' → False) :
    PySem.W.WalkO q loose XP YP l.row.toRowW d [] (fun f vs => PySem.call f vs) := by
  refine Att.attach_call hn hdf fun w s₀ s₁ mg mb fa o pm cd doc a vs ns G Y ho hd hcd hmg hobj hints hlen hg => ?_
  obtain ⟨K, fd, sp, KX, hb, hsp, hF⟩ := F w mg fa _ Y G.T.g hmg
  exact law_callG KX G.T.g G.T.b G.T.builtins G.T.nolimit hg hobj hints (Nat.le_trans hlen hn2) hr hF hb (fun H hO hS => hsp H a ns hlen hO hS) fun H e s' => hCX w H s₁ e s'
end L2

end PE5
section PE6
set_option maxHeartbeats 4000000
/-! What repr tells of data at any depth. -/
namespace L2
open PySem PySem.Spec PyProof.Rows
def kD : Key → PyData
  | .inl i => .int i
  | .inr x => .str x
mutual
/-- v is these data, by what is tracked -/
inductive Rp (H : Hp) : V → PyData → Prop
  | non : Rp H .non .none
  | bl (b : Bool) : Rp H (.bl b) (.bool b)
  | int (i : Int) : Rp H (.int i) (.int i)
  | str (x : Str) : Rp H (.str x) (.str x)
  | lst {a : Addr} {xs : List V} {ds : List PyData} : H a = some (.lst xs) → RpAll H xs ds → Rp H (.ref a) (.list ds)
  | tup {a : Addr} {xs : List V} {ds : List PyData} : H a = some (.tup xs) → RpAll H xs ds → Rp H (.ref a) (.tuple ds)
  | dic {a : Addr} {kvs : List (Key × V)} {ds : List (PyData × PyData)} : H a = some (.dK kvs) → RpKv H kvs ds → Rp H (.ref a) (.dict ds)
inductive RpAll (H : Hp) : List V → List PyData → Prop
  | nil : RpAll H [] []
  | cons {v : V} {vs : List V} {d : PyData} {ds : List PyData} : Rp H v d → RpAll H vs ds → RpAll H (v :: vs) (d :: ds)
inductive RpKv (H : Hp) : List (Key × V) → List (PyData × PyData) → Prop
  | nil : RpKv H [] []
  | cons {k : Key} {v : V} {kvs : List (Key × V)} {d : PyData} {ds : List (PyData × PyData)} : Rp H v d → RpKv H kvs ds → RpKv H ((k, v) :: kvs) ((kD k, d) :: ds)
end
mutual
theorem Rp.same {H H' : Hp} (s : Same H H') : ∀ {v : V} {d : PyData}, Rp H v d → Rp H' v d
  | _, _, .non => .non
  | _, _, .bl b => .bl b
  | _, _, .int i => .int i
  | _, _, .str x => .str x
  | _, _, .lst h r => .lst (s _ _ h) (RpAll.same s r)
  | _, _, .tup h r => .tup (s _ _ h) (RpAll.same s r)
  | _, _, .dic h r => .dic (s _ _ h) (RpKv.same s r)
theorem RpAll.same {H H' : Hp} (s : Same H H') : ∀ {vs : List V} {ds : List PyData}, RpAll H vs ds → RpAll H' vs ds
  | _, _, .nil => .nil
  | _, _, .cons h r => .cons (Rp.same s h) (RpAll.same s r)
theorem RpKv.same {H H' : Hp} (s : Same H H') : ∀ {vs : List (Key × V)} {ds : List (PyData × PyData)}, RpKv H vs ds → RpKv H' vs ds
  | _, _, .nil => .nil
  | _, _, .cons h r => .cons (Rp.same s h) (RpKv.same s r)
end
theorem key_read {h : Heap} {k : Key} {u : Value} (e : keyIs k u = true) : Reads h u (kD k) [] := by
  rcases keyIs_shape e with ⟨i, t, rfl, rfl⟩ | ⟨x, t, rfl, rfl⟩
  · exact Reads.int i t
  · exact Reads.str x t
section
variable {X : Cx} {pins : List (Addr × Obj)} {σ : St} {H : Hp} {s : Shared}
mutual
theorem Rp.reads (I : Inv X pins σ H s) (hm : ∀ a xs, H a = some (.lst xs) → a ≠ sysModules) : ∀ {v : V} {d : PyData} {u : Value}, Rp H v d → RelV v u → ∃ as, Reads s.heap u d as ∧ sysModules ∉ as
  | _, _, u, .non, r => by
    cases (show u = Value.none from r)
    exact ⟨[], .none, by simp⟩
  | _, _, u, .bl b, r => by
    cases (show u = Value.bool b from r)
    exact ⟨[], .bool b, by simp⟩
  | _, _, u, .int i, r => by
    obtain ⟨t, q⟩ := (show ∃ t, u = Value.int i t from r)
    cases q
    exact ⟨[], .int i t, by simp⟩
  | _, _, u, .str x, r => by
    obtain ⟨t, q⟩ := (show ∃ t, u = Value.str x t from r)
    cases q
    exact ⟨[], .str x t, by simp⟩
  | _, _, u, .lst (a := a) (xs := xs) h k, r => by
    cases (show u = Value.ref a from r)
    obtain ⟨_, its, n, rv, e⟩ := (show ObjOk X.prog X.w H s.heap a (.lst xs) from I.hok a _ h)
    obtain ⟨as, q, no⟩ := RpAll.reads I hm k rv
    exact ⟨_, .list e rfl rfl (by simpa using q), fun z => by
      rcases List.mem_cons.mp z with z | z
      · exact hm a xs h z.symm
      · exact no z⟩
  | _, _, u, .tup (a := a) (xs := xs) h k, r => by
    cases (show u = Value.ref a from r)
    obtain ⟨_, its, rv, o, e, c, n, dd⟩ := (show ObjOk X.prog X.w H s.heap a (.tup xs) from I.hok a _ h)
    obtain ⟨as, q, no⟩ := RpAll.reads I hm k rv
    exact ⟨_, .tuple e c dd (by simpa using q), no⟩
  | _, _, u, .dic (a := a) (kvs := kvs) h k, r => by
    cases (show u = Value.ref a from r)
    obtain ⟨_, ns, vs, kv, o, es, ep, e, ex, dd, _, pr, _⟩ := (show ObjOk X.prog X.w H s.heap a (.dK kvs) from I.hok a _ h)
    obtain ⟨as, bs, q1, q2, n1, n2⟩ := RpKv.reads I hm k kv pr
    exact ⟨_, .dict e ex.1 dd q1 q2, fun z => by
      rcases List.mem_append.mp z with z | z
      · rcases List.mem_cons.mp z with z | z
        · rw [← z] at ns
          simp at ns
        · exact n1 z
      · exact n2 z⟩
theorem RpAll.reads (I : Inv X pins σ H s) (hm : ∀ a xs, H a = some (.lst xs) → a ≠ sysModules) : ∀ {vs : List V} {ds : List PyData} {us : List Value}, RpAll H vs ds → Vals vs us → ∃ as, ReadsAll s.heap us ds as ∧ sysModules ∉ as
  | _, _, _, .nil, .nil => ⟨[], .nil, by simp⟩
  | _, _, _, .cons h k, .cons r t => by
    obtain ⟨as, q1, n1⟩ := Rp.reads I hm h r
    obtain ⟨bs, q2, n2⟩ := RpAll.reads I hm k t
    exact ⟨_, .cons q1 q2, fun z => (List.mem_append.mp z).elim n1 n2⟩
theorem RpKv.reads (I : Inv X pins σ H s) (hm : ∀ a xs, H a = some (.lst xs) → a ≠ sysModules) : ∀ {kvs : List (Key × V)} {ds : List (PyData × PyData)} {vs : List (Key × Value)} {es : List DictEntry}, RpKv H kvs ds → KV kvs vs → Pairs (mixKind X.prog X.w) es vs →
    ∃ as bs, ReadsAll s.heap (es.map (·.key)) (ds.map (·.1)) as ∧ ReadsAll s.heap (es.map (·.val)) (ds.map (·.2)) bs ∧ sysModules ∉ as ∧ sysModules ∉ bs
  | _, _, _, _, .nil, .nil, .nil => ⟨[], [], .nil, .nil, by simp, by simp⟩
  | _, _, _, _, .cons h k, .cons r t, .cons e1 e2 e3 => by
    obtain ⟨as, bs, q1, q2, n1, n2⟩ := RpKv.reads I hm k t e3
    obtain ⟨cs, q3, n3⟩ := Rp.reads I hm h r.2
    have hk := e1
    rw [← r.1] at hk
    refine ⟨_, _, .cons (key_read (h := s.heap) hk) q1, .cons (by dsimp only; rw [e2]; exact q3) q2, fun z => ?_, fun z => (List.mem_append.mp z).elim n3 n2⟩
    rcases List.mem_append.mp z with z | z
    · cases z
    · exact n1 z
end
end
/-- repr(v) -/
def rRepr (xs : List V) (H : Hp) (Q : VK) : Prop := ∃ (v : V) (d : PyData), xs = [v] ∧ Rp H v d ∧ d.showable = true ∧ d.shown.length ≤ sizeLine ∧ d.depth ≤ 60 ∧ Q (.str d.shown) H
/-- sys.modules is no list, by the written part -/
def noMods (K : PySem.W.Frag) : Bool := match K.lookup sysModules with
  | some ⟨.type c, _, _, _⟩ => decide (c ≠ "list")
  | _ => false
theorem noMods_ok {X : Cx} {pins : List (Addr × Obj)} {σ : St} {H : Hp} {s : Shared} (I : Inv X pins σ H s) (h : noMods X.K = true) : ∀ a xs, H a = some (.lst xs) → a ≠ sysModules := fun a xs e z => by
  subst z
  obtain ⟨_, its, n, rv, q⟩ := (show ObjOk X.prog X.w H s.heap sysModules (.lst xs) from I.hok _ _ e)
  unfold noMods at h
  cases k : X.K.lookup sysModules with
  | none =>
    rw [k] at h
    cases h
  | some o =>
    have q2 := I.kIn _ _ k
    rw [q] at q2
    cases q2
    rw [k] at h
    simp at h
theorem call_reprD {X : Cx} (hg : X.A.guards = some []) (hu : X.A.units + 64 < cLine) (hK : noMods X.K = true) : CallR X (.builtin "repr") rRepr := by
  intro pins s σ H xs us Q I r h
  obtain ⟨v, d, rfl, hr, hs, hl, hd, q⟩ := h
  obtain ⟨u, rfl, ru⟩ := vals1 r
  cases hr with
  | non =>
    cases (show u = Value.none from ru)
    exact PySem.P.repr_of_none ⟨.str _, H, I.tok _, ⟨_, rfl⟩, q⟩
  | bl b =>
    cases (show u = Value.bool b from ru)
    exact PySem.P.repr_of_bool ⟨.str _, H, I.tok _, ⟨_, rfl⟩, q⟩
  | int i =>
    obtain ⟨t, z⟩ := (show ∃ t, u = Value.int i t from ru)
    cases z
    exact PySem.P.repr_of_int (by simpa [PyData.showable] using hs) ⟨.str _, H, I.tok _, ⟨_, rfl⟩, q⟩
  | str x =>
    obtain ⟨t, z⟩ := (show ∃ t, u = Value.str x t from ru)
    cases z
    exact PySem.P.repr_of_str ⟨.str _, H, I.tok _, ⟨_, rfl⟩, q⟩ hl
  | lst h k =>
    obtain ⟨as, w, no⟩ := Rp.reads I (noMods_ok I hK) (.lst h k) ru
    cases (show u = Value.ref _ from ru)
    exact repr_of_reads' w hs (fun _ => no) hg (by omega) (fun _ _ e => e) (fun h' t tk kp => ⟨.str _, H, I.kept (t' := tk) kp, ⟨_, rfl⟩, q⟩) hl
  | tup h k =>
    obtain ⟨as, w, no⟩ := Rp.reads I (noMods_ok I hK) (.tup h k) ru
    cases (show u = Value.ref _ from ru)
    exact repr_of_reads' w hs (fun _ => no) hg (by omega) (fun _ _ e => e) (fun h' t tk kp => ⟨.str _, H, I.kept (t' := tk) kp, ⟨_, rfl⟩, q⟩) hl
  | dic h k =>
    obtain ⟨as, w, no⟩ := Rp.reads I (noMods_ok I hK) (.dic h k) ru
    cases (show u = Value.ref _ from ru)
    exact repr_of_reads' w hs (fun _ => no) hg (by omega) (fun _ _ e => e) (fun h' t tk kp => ⟨.str _, H, I.kept (t' := tk) kp, ⟨_, rfl⟩, q⟩) hl
end L2
/-! ### the head's facts: each def, and one Bool of the written part (sys.modules among it) -/
namespace He
open PySem PySem.Spec PyProof.Rows L2
def asY (g : Addr → Option Obj) (n : Nat) : List Addr := sysModules :: asD g n
def obsY (n : Nat) (fn : List DefD) (ex : PySem.W.Frag → Bool) (g : Addr → Option Obj) : Bool × List FnW := ((fn.all fun d => d.ok (frG g (asY g n))) && ex (frG g (asY g n)), fn.map fun d => fnW (frG g (asY g n)) d.at_)
structure SaysY (fn : List DefD) (ex : PySem.W.Frag → Bool) (K : PySem.W.Frag) : Prop where
  ok : (fn.all fun d => d.ok K) = true
  more : ex K = true
  fns : fn.map (fun d => fnW K d.at_) = fn.map DefD.val
theorem saysY_of {n : Nat} {fn : List DefD} {ex : PySem.W.Frag → Bool} {g : Addr → Option Obj} (e : obsY n fn ex g = (true, fn.map DefD.val)) : SaysY fn ex (frG g (asY g n)) := by
  have e1 : ((fn.all fun d => d.ok (frG g (asY g n))) && ex (frG g (asY g n))) = true := congrArg (fun z : Bool × List FnW => z.1) e
  exact ⟨(ba e1).1, (ba e1).2, congrArg (fun z : Bool × List FnW => z.2) e⟩
def hookY (n : Nat) (fn : List DefD) (ex : PySem.W.Frag → Bool) : PySem.W.Hook where
  α := Bool × List FnW
  obs := fun s => obsY n fn ex s.heap.get?
  val := fun _ => (true, fn.map DefD.val)
  says := fun _ h => ∃ K : PySem.W.Frag, K.In h ∧ SaysY fn ex K
  of := fun _ _ e => ⟨_, frG_in, saysY_of e⟩
  keeps := fun _ _ _ ⟨K, hK, c⟩ k => ⟨K, PySem.W.Frag.In.keeps hK k, c⟩
theorem obsY_eq {n : Nat} {fn : List DefD} {ex : PySem.W.Frag → Bool} {g : Addr → Option Obj} {s : Shared} (h : ∀ a, g a = s.heap.get? a) : obsY n fn ex g = (hookY n fn ex).obs s := by
  have e : g = s.heap.get? := funext h
  rw [e] <;> rfl
theorem SaysY.def_ {fn : List DefD} {ex : PySem.W.Frag → Bool} {K : PySem.W.Frag} (c : SaysY fn ex K) (i : Nat) {d : DefD} (h : fn[i]? = some d) : ∃ fd, FunD K d.name d.qual d.params d.body d.scope (d.dvs K) (d.kws K) (fAd K d.at_) fd := by
  have e2 : (fn.map fun d => fnW K d.at_)[i]? = (fn.map DefD.val)[i]? := by rw [c.fns]
  rw [List.getElem?_map, List.getElem?_map, h] at e2
  exact DefD.funD (Option.some.inj e2) (List.all_eq_true.mp c.ok d (List.mem_of_getElem? h))
end He

end PE6
section PE7
set_option maxHeartbeats 4000000
/-! Raising an exception of an own class over any of the bases, and what its suite asks of it. -/
namespace L2
open PySem PySem.Spec PyProof.Rows
/-- C(e, ..), made to be raised -/
def tXr (C : Addr) (n : Nat) (sp : Sp) (gV : List V → List V → List V) (t : TA) : St → Hp → XK → Prop := fun σ H Q => t σ H fun vs H1 => vs.length = n ∧ ∀ a, H1 a = none → sp (gV (.ref a :: vs) []) (upd H1 a (exo a C none))
  (fun v H2 => v = .non ∧ ∃ (d : Addr) (fs : List (Str × V)), H2 a = some (exo a C (some d)) ∧ H2 d = some (exd d fs) ∧ H1 d = none ∧ Q (.ref C) (some d) (upd (del H2 a) d (.xd fs))) E0
section
variable {X : Cx} {CX : CXT} {k n : Nat} {fI C : Addr} {fd : FuncData} {ps : List Str} {sp : Sp} {x : Str} {p pos : Pos} {e : Expr} {es : List Expr} {t : TA} {g : List Value → List Value → List Value} {gV : List V → List V → List V}
theorem pmk_xe (T : XC X.K C) (iC : PySem.W.findIn X.K (.ref C) "__init__" = some (some (.ref fI))) (tI : PySem.W.typeIn X.K (.ref fI) = some (.type "function"))
    (F : FnOk X.prog X.w X.K X.mg X.base CX k fI fd ps sp) (hr : Room (k + 1) X.A) (hb : KBn X.K fd ps (n + 1) [] g gV) (hx : Passes CX X E0) (hn : n ≤ 1000) (hg : Gl X x) (hm : X.mg x = some (.ref C)) (ha : PA X (e :: es) t)
    (hdb : (x == ("__debug__" : Str)) = false := by decide) (he : starEach (e :: es) X.env = (false, eval e X.env) :: starEach es X.env := by rfl) (hpl : (backTo pos (starEach es X.env)).any (·.1) = false := by rfl) :
    PMk X (.Call (.Name x p) (e :: es) [] pos) (tXr C n sp gV t) := by
  intro pins s σ H Q I h
  obtain ⟨B, newId, initId, tl, nm, q, N, bs, bm, sn, sub, ab, col, dd, k0, k1, k2, k3, k5, BX, hC, hbm⟩ := T.cls
  refine wpAny_Call_Name_kw (ld_glob I hg hm ?_ hdb)
  refine PySem.W.callWith_K (h₀ := X.base) I.ok.mod.kin T.kC (thn (ha.run pos pins s σ H _ I h) fun us s1 ⟨vs, H1, I1, r1, q1⟩ => ⟨I1.kIn, ?_⟩) he hpl
  obtain ⟨l1, q2⟩ := q1
  show wpAny _ _ (call (.ref C) us) _ _ _
  obtain ⟨hp, gs, dr, tk', os⟩ := s1
  have hsz : hp.objs.size ≤ hp.objs.size + 1 := Nat.le_succ _
  have hn1 : H1 (hp.objs.size + 1) = none := I1.hok.fresh hsz
  have hq := q2 (hp.objs.size + 1) hn1
  have kk : ∀ b o, hp.get? b = some o → ((hp.push (PySem.W.kdv_tup us)).push (PySem.HandSPX.excO C hp.objs.size)).get? b = some o := fun b o e => Heap.get?_push_of_some _ (Heap.get?_push_of_some _ e)
  have hget : ((hp.push (PySem.W.kdv_tup us)).push (PySem.HandSPX.excO C hp.objs.size)).get? (hp.objs.size + 1) = some (PySem.HandSPX.excO C hp.objs.size) := by heap_get
  have I2 : Inv X pins σ (upd H1 (hp.objs.size + 1) (exo (hp.objs.size + 1) C none)) ⟨(hp.push (PySem.W.kdv_tup us)).push (PySem.HandSPX.excO C hp.objs.size), gs, dr, tk', os⟩ :=
    I1.laid (t' := tk') (a := hp.objs.size + 1) (o := exo (hp.objs.size + 1) C none) (h' := (hp.push (PySem.W.kdv_tup us)).push (PySem.HandSPX.excO C hp.objs.size)) kk hsz (exo_ok hget)
  have r3 : Vals (V.ref (hp.objs.size + 1) :: vs) (Value.ref (hp.objs.size + 1) :: us) := .cons rfl r1
  have r2 := hb.rel (zs := []) (ws := []) r3 .nil
  have e1 : (Value.ref (hp.objs.size + 1) :: us).length = n + 1 := r3.length.symm.trans (congrArg Nat.succ l1)
  have hus : us.length ≤ sizeLine := by
    rw [← r1.length, l1]
    exact Nat.le_trans hn (by decide)
  refine wpAny_call (PySem.EXV.call_kw BX.F (fun Y => PySem.W.excTail_contains Y bm hbm) (I1.kIn _ _ hC) (PySem.W.looks_findIn I1.kIn iC) (fun self => PySem.W.bind_fn I1.kIn self tI) hus
    (codeAny_mono (F.run _ X.stack _ _ ⟨Value.ref (hp.objs.size + 1) :: us, []⟩ (g (Value.ref (hp.objs.size + 1) :: us) []) _ _ E0 (hr.make C us []) (I2.env0.make C us []) (hb.to _ (Value.ref (hp.objs.size + 1) :: us) [] I2.kIn e1 rfl) r2 hq) fun r s' hq' => ?_))
  cases r with
  | error er => exact hx pins σ _ _ er s' I2 hq'
  | ok fl =>
    cases fl with
    | ret u =>
      obtain ⟨v, H2, os2, bare2, un2, hok2, rv, ev, d, fs, ea, ed, hd1, q3⟩ := hq'
      subst ev
      obtain ⟨h2, g2, d2, t2, os'⟩ := s'
      exact ⟨rv, mk_end (raises_own T.exC T.tyC) I1 hsz kk un2 hok2 os2 bare2 ea ed hd1 q3⟩
    | next => exact False.elim hq'
    | brk => exact False.elim hq'
    | cont => exact False.elim hq'
end
theorem XC.xf {K : PySem.W.Frag} {C : Addr} (T : XC K C) : XfC K C := ⟨T.ga, T.gg, T.exC, T.hd⟩
/-- isinstance(e, c), e the exception that the suite holds, its dict at d -/
def rIsF (K : PySem.W.Frag) (a : Addr) (cls : Value) (d : Option Addr) : List V → Hp → VK → Prop := fun xs H Q => ∃ (C dd : Addr) (fs : List (Str × V)) (c : V) (u : Value) (b : Bool), xs = [.ref a, c] ∧ ClsV c u ∧ XC K C ∧ cls = .ref C ∧ d = some dd ∧ H dd = some (.xd fs) ∧ PySem.W.kitOne K (.ref C) u = some b ∧ Q (.bl b) H
theorem call_isF {X : Cx} {a : Addr} {cls : Value} {d : Option Addr} {oe : Obj} {pn : List (Addr × Obj)} (hz : Zc cls d oe) (hf : ∃ vs, oe.data = .fields vs) : CallR (X.suite a ((a, oe) :: pn)) (.builtin "isinstance") (rIsF X.K a cls d) := by
  intro pins s σ H xs us Q I r h
  obtain ⟨C, dd, fs, c, u, b, rfl, k, T, ec, ed, ea, e, q⟩ := h
  obtain ⟨u1, u2, rfl, r1, r2⟩ := vals2 r
  have e2 := k.eq r2
  subst e2
  cases (show u1 = Value.ref a from r1)
  subst ec
  subst ed
  obtain ⟨hget, _⟩ := I.pin (a, oe) (List.mem_append.mpr (.inl List.mem_cons_self))
  obtain ⟨vs, hv⟩ := hf
  have hx : ObjOk X.prog X.w H s.heap dd (.xd fs) := I.hok dd _ ea
  obtain ⟨mA, ⟨od, es, ep, e1, hds, hre⟩, rel⟩ := hx
  have J : PySem.W.InstAt s.heap a oe C (some od) := ⟨hget, hz.1, by unfold PySem.W.notCls; rw [hv] <;> rfl, by rw [hz.2]; exact e1⟩
  exact PySem.W.kia_one (PySem.W.kitx_exc (od := some od) T.isCls T.ga T.gg T.exC T.ha T.hn T.ht T.hm) I.kIn J e (fun z => nomatch z) fun tk => ⟨.bl b, H, I.tok tk, rfl, q⟩
theorem takes_no {X : Cx} : Takes X (fun _ _ _ _ => False) := fun u s' h => by
  obtain ⟨_, _, _, _, _, _, _, _, _, _, _, _, _, _, _, _, w⟩ := h
  exact w.elim
end L2

end PE7
section PK19a
set_option maxHeartbeats 4000000
namespace K19
open PySem L2
def top (i : Nat) : Stmt := PySem.Challenge.pw_keptedits_k19_errors_created.main.body.getD i (.Pass ⟨0, 0, 0, 0⟩)
abbrev sPot : Stmt := top 36
abbrev sDraw : Stmt := top 37
abbrev sPick : Stmt := top 38
abbrev sThing : Stmt := top 39
abbrev FD (K : PySem.W.Frag) (x : Str) (st : Stmt) (f : Addr) (fd : FuncData) : Prop := FunD K x x (defArgs st) (defBody st) (defScope st) [] [] f fd
/-! ### heaps: what stands but at p -/
def Bt (p : Addr) (H H' : Hp) : Prop := ∀ b o, b ≠ p → H b = some o → H' b = some o
theorem Bt.refl (p : Addr) (H : Hp) : Bt p H H := fun _ _ _ e => e
theorem Bt.trans {p : Addr} {H H1 H2 : Hp} (a : Bt p H H1) (b : Bt p H1 H2) : Bt p H H2 := fun c o n e => b c o n (a c o n e)
theorem Same.bt {p : Addr} {H H' : Hp} (s : Same H H') : Bt p H H' := fun b o _ e => s b o e
theorem same_upd {H : Hp} {p : Addr} {o : HO} (h : H p = none) : Same H (upd H p o) := fun b u e => by
  rw [upd_ne (ne_of_none e h)]
  exact e
theorem bt_upd {H : Hp} {p : Addr} {o : HO} : Bt p H (upd H p o) := fun b u n e => by
  rw [upd_ne n]
  exact e
/-- H without p -/
def hid (p : Addr) (H : Hp) : Hp := fun b => if b = p then none else H b
theorem hid_same (p : Addr) (H : Hp) : Same (hid p H) H := fun b o e => by
  unfold hid at e
  by_cases h : b = p
  · rw [if_pos h] at e
    cases e
  · rw [if_neg h] at e
    exact e
theorem Bt.hid {p : Addr} {H H' : Hp} (s : Bt p H H') : Same (hid p H) (hid p H') := fun b o e => by
  unfold K19.hid at e ⊢
  by_cases h : b = p
  · rw [if_pos h] at e
    cases e
  · rw [if_neg h] at e ⊢
    exact s b o h e
theorem Bt.free {p q : Addr} {H H' : Hp} (s : Bt p H H') (hq : q ≠ p) (h : H' q = none) : H q = none := by
  cases e : H q with
  | none => rfl
  | some o =>
    rw [s q o hq e] at h
    cases h
/-! ### the pot: two ints, the rest of the digits and the seed -/
def PotAt (H : Hp) (p : Addr) : Prop := ∃ x y : Int, H p = some (.lst [.int x, .int y]) ∧ 0 ≤ x ∧ 0 ≤ y ∧ y ≤ 2147483630
def spPot (K : PySem.W.Frag) : Sp := fun vs H Q _ => ∃ (a : Addr) (ns : List Int) (k : Int), vs = [.ref a, .int k] ∧ SqL K H a (ns.map V.int) ∧ ns.length ≤ 63 ∧ 0 ≤ k ∧ k ≤ 63 ∧
  ∀ (p : Addr) (x y : Int), H p = none → 0 ≤ x → 0 ≤ y → y ≤ 2147483630 → Q (.ref p) (upd H p (.lst [.int x, .int y]))
def spDraw : Sp := fun vs H Q _ => ∃ (p : Addr) (n : Int), vs = [.ref p, .int n] ∧ PotAt H p ∧ 0 < n ∧ n < 1073741824 ∧ ∀ (d : Int) (H' : Hp), 0 ≤ d → d < n → Bt p H H' → PotAt H' p → Q (.int d) H'
def spPick (K : PySem.W.Frag) : Sp := fun vs H Q _ => ∃ (p l : Addr) (xs : List V), vs = [.ref p, .ref l] ∧ PotAt H p ∧ l ≠ p ∧ H l = some (.lst xs) ∧ 0 < xs.length ∧ xs.length ≤ 1000 ∧
  ∀ (i : Nat) (v : V) (H' : Hp), xs[i]? = some v → Bt p H H' → PotAt H' p → Q v H'
structure TxtP (K : PySem.W.Frag) (mg : Str → Option Value) : Prop where
  len : mg "len" = none
  max : mg "max" = none
  abs : mg "abs" = none
  int : mg "int" = none
  divmod : mg "divmod" = none
section
variable {P : Program} {w : World} {K : PySem.W.Frag} {mg : Str → Option Value} {base : Heap}
theorem scPot : FnScope ["_law_script", "_law_k", "_law_cell"] ["_law_script", "_law_k"] (defScope sPot) := ⟨rfl, rfl, rfl, by decide +kernel, rfl, by decide +kernel, by decide +kernel⟩
theorem ok_pot {f : Addr} {fd : FuncData} (F : FD K "_law_pot" sPot f fd) (T : TxtP K mg) : FnOk P w K mg base CX0 1 f fd ["_law_script", "_law_k"] (spPot K) := by
  refine F.ok scPot (fun vs H Q E h => ?_) (fun cdv A outer s H vs Q E hr h => ?_)
  · obtain ⟨a, ns, k, rfl, _⟩ := h
    rfl
  · obtain ⟨a, ns, k, rfl, hS, hl, k0, k1, kk⟩ := h
    refine ⟨_, PSs.nox (pss_cons (ps_set (i := 2) scPot.nd rfl (Or.inl rfl) (pe_ifExp (pt_cmpR op_lt (pv 1) (pe_callB call_len_seq (by rfl) T.len PySem.boot_len (pa_cons (pv 0) pa_nil)) (nomark _)) (pe_ix ix_list (pv 0) (pv 1) (fun _ _ => rfl)) (pe_op op_mul pe_int (pv 1))))
      (pss_one (ps_ret (pe_lst (pa_cons (pe_callB (call_max2 rfl) (by rfl) T.max (by decide +kernel) (pa_cons pe_int (pa_cons (pe_op op_sub (pe_callB call_abs (by rfl) T.abs (by decide +kernel) (pa_cons (pv 2) pa_nil)) (pe_op op_pow pe_int pe_int)) pa_nil)))
        (pa_cons (pe_op op_add (pe_op op_mod (pe_callTy call_int1 (by rfl) T.int (by decide +kernel) (pa_cons (pe_op op_add (pe_op op_add (pe_op op_mul (pe_op op_mod (pe_callTy call_int1 (by rfl) T.int (by decide +kernel) (pa_cons (pe_callB call_abs (by rfl) T.abs (by decide +kernel) (pa_cons (pv 2) pa_nil)) pa_nil)) pe_int) pe_int) (pe_op op_mul pe_int (pv 1))) pe_int) pa_nil)) pe_int) pe_int) pa_nil)))))), ?_⟩
    refine ⟨_, rfl, _, rfl, a, _, rfl, .inl hS, _, _, rfl, rfl, _, rfl, ?_⟩
    have cell : ∀ c : Int, tRet (tLst (tCons (tCB (fun xs H Q => ∃ i j, xs = [V.int i, V.int j] ∧ Q (V.int (if j > i then j else i)) H) (tCons (tC (V.int 0)) (tCons (tOp (rI0 fun i j => V.int (i - j)) (tCB (fun xs H Q => ∃ i, xs = [V.int i] ∧ Q (V.int (if i < 0 then -i else i)) H) (tCons (tVar 2) tNil)) (tOp (rI CPow fun i j => V.int (i ^ j.toNat)) (tC (V.int 10)) (tC (V.int 18)))) tNil)))
        (tCons (tOp (rI0 fun i j => V.int (i + j)) (tOp (rI (fun _ j => 0 < j) fun i j => V.int (i % j)) (tCB (fun xs H Q => (∃ i, xs = [V.int i] ∧ Q (V.int i) H) ∨ ∃ k, xs = [V.bl k] ∧ Q (V.int (if k = true then 1 else 0)) H) (tCons (tOp (rI0 fun i j => V.int (i + j)) (tOp (rI0 fun i j => V.int (i + j))
          (tOp (rI CMul fun i j => V.int (i * j)) (tOp (rI (fun _ j => 0 < j) fun i j => V.int (i % j)) (tCB (fun xs H Q => (∃ i, xs = [V.int i] ∧ Q (V.int i) H) ∨ ∃ k, xs = [V.bl k] ∧ Q (V.int (if k = true then 1 else 0)) H) (tCons (tCB (fun xs H Q => ∃ i, xs = [V.int i] ∧ Q (V.int (if i < 0 then -i else i)) H) (tCons (tVar 2) tNil)) tNil)) (tC (V.int 2147483563))) (tC (V.int 40009)))
          (tOp (rI CMul fun i j => V.int (i * j)) (tC (V.int 61297)) (tVar 1))) (tC (V.int 17))) tNil)) (tC (V.int 2147483629))) (tC (V.int 1))) tNil))) { nx := fun _ H' => Q .non H', rt := Q } [some (.ref a), some (.int k), some (.int c)] H := fun c => by
      refine ⟨_, rfl, _, rfl, _, _, rfl, rfl, ⟨by decide, by decide, by decide⟩, _, _, rfl, rfl, _, _, rfl, ?_⟩
      refine ⟨_, rfl, _, rfl, .inl ⟨_, rfl, _, _, rfl, rfl, (by show (0 : Int) < 2147483563; decide), _, _, rfl, rfl, .inr ⟨by decide, by decide⟩, _, rfl, _, _, rfl, rfl, .inl ⟨by decide, by decide⟩, _, _, rfl, rfl, _, _, rfl, rfl, .inl ⟨_, rfl, _, _, rfl, rfl, (by show (0 : Int) < 2147483629; decide), _, _, rfl, rfl, ?_⟩⟩⟩
      refine ⟨by show 2 ≤ sizeLine; decide, fun p hp => kk p _ _ hp ?_ ?_ ?_⟩
      · split <;> omega
      · exact Int.add_nonneg (Int.emod_nonneg _ (by decide)) (by decide)
      · have := Int.emod_lt_of_pos (((if c < 0 then -c else c) % 2147483563 * 40009 + 61297 * k + 17)) (show (0 : Int) < 2147483629 by decide)
        omega
    refine ite2 (fun h => ?_) (fun h => ?_)
    · have hk : k.toNat < ns.length := by
        have := of_decide_eq_true h
        rw [List.length_map] at this
        omega
      refine ⟨_, rfl, _, rfl, a, _, k, .int (ns[k.toNat]'hk), rfl, rfl, hS, ?_, cell _⟩
      have e := atI_nat (xs := ns.map V.int) (j := k.toNat) (v := .int (ns[k.toNat]'hk)) (by rw [List.getElem?_map, List.getElem?_eq_getElem hk] <;> rfl)
      rw [Int.toNat_of_nonneg k0] at e
      exact e
    · exact ⟨_, rfl, _, _, rfl, rfl, .inl ⟨by decide, by decide⟩, cell _⟩
theorem scDraw : FnScope ["_law_pot_here", "_law_many", "_law_digit"] ["_law_pot_here", "_law_many"] (defScope sDraw) := ⟨rfl, rfl, rfl, by decide +kernel, rfl, by decide +kernel, by decide +kernel⟩
theorem ok_draw {f : Addr} {fd : FuncData} (F : FD K "_law_draw" sDraw f fd) (T : TxtP K mg) : FnOk P w K mg base CX0 1 f fd ["_law_pot_here", "_law_many"] spDraw := by
  refine F.ok scDraw (fun vs H Q E h => ?_) (fun cdv A outer s H vs Q E hr h => ?_)
  · obtain ⟨p, n, rfl, _⟩ := h
    rfl
  · obtain ⟨p, n, rfl, ⟨x, y, hp, x0, y0, y1⟩, n0, n1, kk⟩ := h
    refine ⟨_, PSs.nox (pss_cons (ps_if (pt_cmpR op_gt (pe_ix ix_list (pv 0) pe_int (fun _ _ => rfl)) pe_int (nomark _))
        (pss_cons (ps_asg (pe_callB call_divmod (by rfl) T.divmod (by decide +kernel) (pa_cons (pe_ix ix_list (pv 0) pe_int (fun _ _ => rfl)) (pa_cons (pv 1) pa_nil))) (pg_tup rfl (pgs_cons (pg_sub (pv 0) pe_int set_list) (pgs_cons (pg_name (i := 2) scDraw.nd rfl (.inl rfl)) pgs_nil))))
          (pss_one (ps_ret (pv 2)))) pss_nil)
      (pss_cons (ps_asg (pe_op op_mod (pe_callTy call_int1 (by rfl) T.int (by decide +kernel) (pa_cons (pe_op op_add (pe_op op_mul (pe_ix ix_list (pv 0) pe_int (fun _ _ => rfl)) pe_int) pe_int) pa_nil)) pe_int) (pg_sub (pv 0) pe_int set_list))
      (pss_one (ps_ret (pe_op op_mod (pe_callTy call_int1 (by rfl) T.int (by decide +kernel) (pa_cons (pe_op op_fdiv (pe_op op_mod (pe_callTy call_int1 (by rfl) T.int (by decide +kernel) (pa_cons (pe_op op_mul (pe_ix ix_list (pv 0) pe_int (fun _ _ => rfl)) (pe_ix ix_list (pv 0) pe_int (fun _ _ => rfl))) pa_nil)) pe_int) pe_int) pa_nil)) (pv 1)))))), ?_⟩
    refine ⟨_, rfl, p, _, _, .int x, rfl, rfl, SqL.of hp, rfl, _, _, rfl, rfl, _, rfl, ?_⟩
    refine ite2 (fun h => ?_) (fun h => ?_)
    · refine ⟨_, rfl, p, _, _, .int x, rfl, rfl, SqL.of hp, rfl, _, rfl, _, _, rfl, ⟨n0, n1⟩, fun t ht => ?_⟩
      have ntp : p ≠ t := ne_of_none hp ht
      refine ⟨t, _, rfl, SqT.of upd_same, rfl, ?_⟩
      refine ⟨_, _, rfl, _, rfl, p, _, _, 0, rfl, rfl, (by rw [upd_ne ntp]; exact hp), rfl, _, _, rfl, rfl, ?_⟩
      refine ⟨_, rfl, kk _ _ (Int.emod_nonneg _ (by omega)) (Int.emod_lt_of_pos _ n0) (fun b o nb e => ?_) ⟨x / n, y, upd_same, Int.ediv_nonneg x0 (by omega), y0, y1⟩⟩
      rw [upd_ne nb]
      exact same_upd ht b o e
    · refine ⟨_, rfl, p, _, _, .int y, rfl, rfl, SqL.of hp, rfl, _, _, rfl, rfl, .inr ⟨by decide, by decide⟩, _, _, rfl, rfl, .inl ⟨_, rfl, _, _, rfl, rfl, (by show (0 : Int) < 2147483587; decide), ?_⟩⟩
      refine ⟨_, rfl, p, _, _, 1, rfl, rfl, hp, rfl, ?_⟩
      have z0 : 0 ≤ (y * 44203 + 15511) % 2147483587 := Int.emod_nonneg _ (by decide)
      have z1 : (y * 44203 + 15511) % 2147483587 < 2147483587 := Int.emod_lt_of_pos _ (by decide)
      refine ⟨_, rfl, p, _, _, .int ((y * 44203 + 15511) % 2147483587), rfl, rfl, SqL.of upd_same, rfl, _, rfl, p, _, _, .int ((y * 44203 + 15511) % 2147483587), rfl, rfl, SqL.of upd_same, rfl, _, _, rfl, rfl, .inl ⟨by omega, by omega⟩,
        .inl ⟨_, rfl, _, _, rfl, rfl, (by show (0 : Int) < 2147483549; decide), _, _, rfl, rfl, ⟨by decide, by decide⟩, .inl ⟨_, rfl, _, rfl, _, _, rfl, rfl, n0, ?_⟩⟩⟩
      exact kk _ _ (Int.emod_nonneg _ (by omega)) (Int.emod_lt_of_pos _ n0) bt_upd ⟨x, _, upd_same, x0, z0, by omega⟩
theorem scPick : FnScope ["_law_pot_here", "_law_some"] ["_law_pot_here", "_law_some"] (defScope sPick) := ⟨rfl, rfl, rfl, by decide +kernel, rfl, by decide +kernel, by decide +kernel⟩
theorem ok_pick {f fd_ : Addr} {fd fdd : FuncData} (F : FD K "_law_pick" sPick f fd) (T : TxtP K mg) (GD : FnOk P w K mg base CX0 1 fd_ fdd ["_law_pot_here", "_law_many"] spDraw) (bD : Binds K fdd ["_law_pot_here", "_law_many"] []) (mD : mg "_law_draw" = some (.ref fd_)) (kD : PySem.W.keepIn K (.ref fd_) = true) :
    FnOk P w K mg base CX0 2 f fd ["_law_pot_here", "_law_some"] (spPick K) := by
  refine F.ok scPick (fun vs H Q E h => ?_) (fun cdv A outer s H vs Q E hr h => ?_)
  · obtain ⟨p, l, xs, rfl, _⟩ := h
    rfl
  · obtain ⟨p, l, xs, rfl, hP, nl, hl, l0, l1, kk⟩ := h
    refine ⟨_, PSs.nox (pss_one (ps_ret (pe_ix ix_list (pv 1) (pe_call GD hr rfl mD kD bD .nil pass0 (pa_cons (pv 0) (pa_cons (pe_callB call_len_seq (by rfl) T.len PySem.boot_len (pa_cons (pv 1) pa_nil)) pa_nil))) (fun _ _ => rfl)))), ?_⟩
    refine ⟨_, rfl, _, rfl, _, rfl, l, _, rfl, .inl (SqL.of hl), p, _, rfl, hP, by omega, by omega, fun d H' d0 d1 hb hp' => ?_⟩
    have hd : d.toNat < xs.length := by omega
    have e : xs[d.toNat]? = some (xs[d.toNat]'hd) := List.getElem?_eq_getElem hd
    refine ⟨l, xs, d, xs[d.toNat]'hd, rfl, rfl, SqL.of (hb l _ nl hl), ?_, kk d.toNat _ H' e hb hp'⟩
    have z := atI_nat e
    rw [Int.toNat_of_nonneg d0] at z
    exact z
end
end K19

end PK19a
section PK19b
set_option maxHeartbeats 4000000
namespace K19
open PySem L2
/-- what is drawn: data that repr tells -/
def Th (H : Hp) (v : V) : Prop := ∃ d : PyData, Rp H v d ∧ d.showable = true ∧ d.shown.length ≤ 200 ∧ d.depth ≤ 3
theorem Th.same {H H' : Hp} {v : V} (s : Same H H') (h : Th H v) : Th H' v := by
  obtain ⟨d, r, a, b, c⟩ := h
  exact ⟨d, r.same s, a, b, c⟩
/-- what of H' is not in H -/
def newIn (H H' : Hp) : Hp := fun b => match H b with
  | none => H' b
  | some _ => none
theorem new_at {a : Addr} {H H' : Hp} {o : HO} (n : H a = none) (h : H' a = some o) : newIn H H' a = some o := by
  unfold newIn
  rw [n]
  exact h
theorem new_same {H H1 H2 : Hp} (h : ∀ b o, H b = none → H1 b = some o → H2 b = some o) : Same (newIn H H1) (newIn H H2) := fun b o e => by
  unfold newIn at e ⊢
  cases z : H b with
  | none =>
    rw [z] at e
    exact h b o z e
  | some u =>
    rw [z] at e
    cases e
theorem new_in {H H' : Hp} : Same (newIn H H') H' := fun b o e => by
  unfold newIn at e
  cases z : H b with
  | none =>
    rw [z] at e
    exact e
  | some u =>
    rw [z] at e
    cases e
theorem Same.free {H H' : Hp} {a : Addr} (s : Same H H') (n : H' a = none) : H a = none := by
  cases z : H a with
  | none => rfl
  | some o =>
    rw [s a o z] at n
    cases n
def spThing : Sp := fun vs H Q _ => ∃ (p : Addr), vs = [.ref p] ∧ PotAt H p ∧ ∀ (v : V) (H' : Hp), Th (newIn H H') v → Bt p H H' → PotAt H' p → Q v H'
theorem PotAt.bt {H H' : Hp} {p : Addr} (s : Same H H') (h : PotAt H p) : PotAt H' p := by
  obtain ⟨x, y, e, r⟩ := h
  exact ⟨x, y, s _ _ e, r⟩
theorem pot_ne {H : Hp} {p q : Addr} (h : PotAt H p) (n : H q = none) : q ≠ p := fun e => by
  obtain ⟨x, y, z, _⟩ := h
  rw [e, z] at n
  cases n
section
variable {P : Program} {w : World} {K : PySem.W.Frag} {mg : Str → Option Value} {base : Heap}
theorem scThing : FnScope ["_law_pot_here", "_law_some"] ["_law_pot_here"] (defScope sThing) := ⟨rfl, rfl, rfl, by decide +kernel, rfl, by decide +kernel, by decide +kernel⟩
theorem ok_thing {f fd_ : Addr} {fd fdd : FuncData} (F : FD K "_law_thing" sThing f fd) (GD : FnOk P w K mg base CX0 2 fd_ fdd ["_law_pot_here", "_law_some"] (spPick K)) (bD : Binds K fdd ["_law_pot_here", "_law_some"] []) (mD : mg "_law_pick" = some (.ref fd_)) (kD : PySem.W.keepIn K (.ref fd_) = true) :
    FnOk P w K mg base CX0 3 f fd ["_law_pot_here"] spThing := by
  refine F.ok scThing (fun vs H Q E h => ?_) (fun cdv A outer s H vs Q E hr h => ?_)
  · obtain ⟨p, rfl, _⟩ := h
    rfl
  · obtain ⟨p, rfl, hP, kk⟩ := h
    refine ⟨_, PSs.nox (pss_cons (ps_set (i := 1) scThing.nd rfl (Or.inl rfl) (pe_lst (pa_cons pe_int (pa_cons (pe_un un_neg pe_int) (pa_cons pe_int (pa_cons (pe_op op_pow pe_int pe_int) (pa_cons pe_bl (pa_cons pe_bl (pa_cons pe_non (pa_cons pe_str (pa_cons pe_str (pa_cons pe_str
      (pa_cons (pe_tup (pa_cons pe_str (pa_cons pe_str pa_nil))) (pa_cons (pe_tup (pa_cons pe_int (pa_cons pe_non pa_nil))) (pa_cons (pe_lst (pa_cons pe_str pa_nil)) (pa_cons (pe_disp (pps_cons pe_str pe_int pps_nil) (by rfl) (by rfl) (fun z => by cases z) (by decide)) (pa_cons pe_dnewK pa_nil)))))))))))))))))
      (pss_one (ps_ret (pe_call GD hr rfl mD kD bD .nil pass0 (pa_cons (pv 0) (pa_cons (pv 1) pa_nil)))))), ?_⟩
    refine ⟨_, rfl, _, _, rfl, rfl, ⟨by decide, by decide, by decide⟩, by show 2 ≤ sizeLine; decide, fun t1 n1 => ⟨by show 2 ≤ sizeLine; decide, fun t2 n2 => ⟨by show 1 ≤ sizeLine; decide, fun l1 n3 d1 n4 => ⟨upd_same, [(Sum.inr "a", .int 1)], rfl, by decide, fun d2 n5 => ⟨by show 15 ≤ sizeLine; decide, fun l n6 => ?_⟩⟩⟩⟩⟩
    rw [upd_upd] at n5 n6 ⊢
    have s1 : Same H _ := same_upd (o := HO.tup [V.str "", V.str "a"]) n1
    have s2 := same_upd (o := HO.tup [V.int 1, V.non]) n2
    have s3 := same_upd (o := HO.lst [V.str "a"]) n3
    have s4 := same_upd (o := HO.dK (mergeK [] [(Sum.inr "a", V.int 1)])) n4
    have s5 := same_upd (o := HO.dK []) n5
    have s6 := same_upd (o := HO.lst [V.int 0, V.int (-1), V.int 7, V.int (10 ^ (25 : Int).toNat), V.bl true, V.bl false, V.non, V.str "", V.str "a", V.str "own", V.ref t1, V.ref t2, V.ref l1, V.ref d1, V.ref d2]) n6
    have e1 := pot_ne hP n1
    have e2 := pot_ne (hP.bt s1) n2
    have e3 := pot_ne ((hP.bt s1).bt s2) n3
    have e4 := pot_ne (((hP.bt s1).bt s2).bt s3) n4
    have e5 := pot_ne ((((hP.bt s1).bt s2).bt s3).bt s4) n5
    have e6 := pot_ne (((((hP.bt s1).bt s2).bt s3).bt s4).bt s5) n6
    refine ⟨_, rfl, _, rfl, p, l, _, rfl, ((((((hP.bt s1).bt s2).bt s3).bt s4).bt s5).bt s6), e6, upd_same, (by show 0 < 15; decide), (by show 15 ≤ 1000; decide), fun i v H' hi hb hp => ?_⟩
    refine kk v H' ?_ (((((((Same.bt s1).trans (Same.bt s2)).trans (Same.bt s3)).trans (Same.bt s4)).trans (Same.bt s5)).trans (Same.bt s6)).trans hb) hp
    refine Th.same (new_same fun b o z e => hb b o (pot_ne hP z) e) ?_
    have f2 := s1.free n2
    have f3 := s1.free (s2.free n3)
    have f4 := s1.free (s2.free (s3.free n4))
    have f5 := s1.free (s2.free (s3.free (s4.free n5)))
    have h1 := new_at n1 (s6 _ _ (s5 _ _ (s4 _ _ (s3 _ _ (s2 _ _ upd_same)))))
    have h2 := new_at f2 (s6 _ _ (s5 _ _ (s4 _ _ (s3 _ _ upd_same))))
    have h3 := new_at f3 (s6 _ _ (s5 _ _ (s4 _ _ upd_same)))
    have h4 := new_at f4 (s6 _ _ (s5 _ _ upd_same))
    have h5 := new_at f5 (s6 _ _ upd_same)
    have hm := List.mem_of_getElem? hi
    simp only [List.mem_cons, List.not_mem_nil, or_false] at hm
    rcases hm with rfl | rfl | rfl | rfl | rfl | rfl | rfl | rfl | rfl | rfl | rfl | rfl | rfl | rfl | rfl
    · exact ⟨.int 0, .int _, by decide +kernel, by decide +kernel, by decide +kernel⟩
    · exact ⟨.int (-1), .int _, by decide +kernel, by decide +kernel, by decide +kernel⟩
    · exact ⟨.int 7, .int _, by decide +kernel, by decide +kernel, by decide +kernel⟩
    · exact ⟨.int (10 ^ 25), .int _, by decide +kernel, by decide +kernel, by decide +kernel⟩
    · exact ⟨.bool true, .bl _, by decide +kernel, by decide +kernel, by decide +kernel⟩
    · exact ⟨.bool false, .bl _, by decide +kernel, by decide +kernel, by decide +kernel⟩
    · exact ⟨.none, .non, by decide +kernel, by decide +kernel, by decide +kernel⟩
    · exact ⟨.str "", .str _, by decide +kernel, by decide +kernel, by decide +kernel⟩
    · exact ⟨.str "a", .str _, by decide +kernel, by decide +kernel, by decide +kernel⟩
    · exact ⟨.str "own", .str _, by decide +kernel, by decide +kernel, by decide +kernel⟩
    · exact ⟨.tuple [.str "", .str "a"], .tup h1 (.cons (.str _) (.cons (.str _) .nil)), by decide +kernel, by decide +kernel, by decide +kernel⟩
    · exact ⟨.tuple [.int 1, .none], .tup h2 (.cons (.int _) (.cons .non .nil)), by decide +kernel, by decide +kernel, by decide +kernel⟩
    · exact ⟨.list [.str "a"], .lst h3 (.cons (.str _) .nil), by decide +kernel, by decide +kernel, by decide +kernel⟩
    · exact ⟨.dict [(.str "a", .int 1)], .dic h4 (.cons (k := Sum.inr "a") (.int _) .nil), by decide +kernel, by decide +kernel, by decide +kernel⟩
    · exact ⟨.dict [], .dic h5 .nil, by decide +kernel, by decide +kernel, by decide +kernel⟩
end
end K19

end PK19b
section PK19c
set_option maxHeartbeats 4000000
namespace K19
open PySem L2
/-! ### the classes: their places, names, fields -/
def cn1 : List Str := ["InvalidValue", "InvalidPresence", "NotSettable", "NotRemovable", "InvalidChoice", "InvalidNumber", "InvalidCommand", "InvalidName", "NameTaken", "UnknownProgram", "UnknownOwn", "UnknownField", "UnknownList", "UnknownName", "InvalidSet", "InvalidMap", "InvalidStep"]
def cn2 : List Str := ["InvalidRow", "InvalidList", "InvalidWish", "InvalidOffer", "InvalidCopies", "InvalidDocument", "InvalidEdit", "InvalidOwn", "InvalidBeginnings", "InvalidProgram", "InvalidWorld", "InvalidWrite", "InvalidText", "NothingToUndo", "Unlike", "TooMany"]
def cn (k : Nat) : Str := (cn1 ++ cn2).getD k ""
def cA (K : PySem.W.Frag) (k : Nat) : Addr := He.ga K (cn k)
def fA (K : PySem.W.Frag) (k : Nat) : Addr := He.fAd K (cn k, some "__init__")
def allF : List Str := ["value", "position", "part", "key", "line", "what", "limit"]
structure Cl (K : PySem.W.Frag) (mg : Str → Option Value) (k : Nat) : Prop where
  x : XC K (cA K k)
  g : mg (cn k) = some (.ref (cA K k))
  i : PySem.W.findIn K (.ref (cA K k)) "__init__" = some (some (.ref (fA K k)))
  t : PySem.W.typeIn K (.ref (fA K k)) = some (.type "function")
  no : ∀ f ∈ allF, PySem.W.findIn K (.ref (cA K k)) f = some none

/-! ### what each __init__ leaves -/
def spI0 (K : PySem.W.Frag) : Sp := fun vs H Q _ => ∃ (a : Addr), vs = [.ref a] ∧ Q .non H
def spI1 (K : PySem.W.Frag) (f : Str) : Sp := fun vs H Q _ => ∃ (a C : Addr) (y : V), vs = [.ref a, y] ∧ XC K C ∧ PySem.W.findIn K (.ref C) f = some none ∧ H a = some (exo a C none) ∧
  ∀ dx, H dx = none → dx ≠ a → Q .non (upd (upd H dx (exd dx [(f, y)])) a (exo a C (some dx)))
def spI2 (K : PySem.W.Frag) (f g : Str) : Sp := fun vs H Q _ => ∃ (a C : Addr) (y z : V), vs = [.ref a, y, z] ∧ XC K C ∧ PySem.W.findIn K (.ref C) f = some none ∧ PySem.W.findIn K (.ref C) g = some none ∧ H a = some (exo a C none) ∧
  ∀ dx, H dx = none → dx ≠ a → Q .non (upd (upd (upd H dx (exd dx [(f, y)])) a (exo a C (some dx))) dx (exd dx [(g, z), (f, y)]))
/-- the expression te makes an exception of the class C with these fields -/
def Mkx (te : TE) (σ : St) (H : Hp) (C : Addr) (fs : List (Str × V)) : Prop := ∀ H1, Same H H1 → ∀ Q : VK, (∀ a H2, Same H1 H2 → IsX H2 C fs a → Q (.ref a) H2) → te σ H1 Q
theorem mkx0 {K : PySem.W.Frag} {C : Addr} {σ : St} {H : Hp} {gV : List V → List V → List V} (hg : ∀ a : V, gV [a] [] = [a]) : Mkx (tXmk C 0 0 (spI0 K) gV tNil tNil) σ H C [] := fun H1 s Q q =>
  ⟨rfl, rfl, fun a ha => ⟨a, hg _, rfl, q a _ (same_upd ha) (.inl ⟨rfl, upd_same⟩)⟩⟩
theorem made1 {K : PySem.W.Frag} {C : Addr} {H : Hp} {f : Str} {y : V} {Q : VK} (T : XC K C) (no : PySem.W.findIn K (.ref C) f = some none) (q : ∀ a H2, Same H H2 → IsX H2 C [(f, y)] a → Q (.ref a) H2) :
    ∀ a, H a = none → spI1 K f [.ref a, y] (upd H a (exo a C none)) (fun v H3 => v = .non ∧ Q (.ref a) H3) E0 := fun a ha =>
  ⟨a, C, y, rfl, T, no, upd_same, fun dx hd ne => ⟨rfl, q a _ (fun b o e => by
    have hb : b ≠ a := ne_of_none e ha
    have hx : H dx = none := by rw [← hd, upd_ne ne]
    rw [upd_ne hb, upd_ne (ne_of_none e hx), upd_ne hb]
    exact e) (.inr ⟨dx, upd_same, by rw [upd_ne ne, upd_same]⟩)⟩⟩
theorem made2 {K : PySem.W.Frag} {C : Addr} {H : Hp} {f g : Str} {y z : V} {Q : VK} (T : XC K C) (no : PySem.W.findIn K (.ref C) f = some none) (no2 : PySem.W.findIn K (.ref C) g = some none) (q : ∀ a H2, Same H H2 → IsX H2 C [(g, z), (f, y)] a → Q (.ref a) H2) :
    ∀ a, H a = none → spI2 K f g [.ref a, y, z] (upd H a (exo a C none)) (fun v H3 => v = .non ∧ Q (.ref a) H3) E0 := fun a ha =>
  ⟨a, C, y, z, rfl, T, no, no2, upd_same, fun dx hd ne => ⟨rfl, q a _ (fun b o e => by
    have hb : b ≠ a := ne_of_none e ha
    have hx : H dx = none := by rw [← hd, upd_ne ne]
    rw [upd_ne (ne_of_none e hx), upd_ne hb, upd_ne (ne_of_none e hx), upd_ne hb]
    exact e) (.inr ⟨dx, by rw [upd_ne (Ne.symm ne), upd_same], upd_same⟩)⟩⟩
theorem mkx1p {K : PySem.W.Frag} {C : Addr} {σ : St} {H : Hp} {f : Str} {y : V} {i : Nat} (T : XC K C) (no : PySem.W.findIn K (.ref C) f = some none) (h : σ[i]? = some (some y)) : Mkx (tXmk C 1 0 (spI1 K f) (fun us _ => us) (tCons (tVar i) tNil) tNil) σ H C [(f, y)] :=
  fun H1 s Q q => ⟨y, h, rfl, rfl, made1 T no q⟩
theorem mkx1k {K : PySem.W.Frag} {C : Addr} {σ : St} {H : Hp} {f : Str} {y : V} {i : Nat} (T : XC K C) (no : PySem.W.findIn K (.ref C) f = some none) (h : σ[i]? = some (some y)) : Mkx (tXmk C 0 1 (spI1 K f) (fun us zs => us ++ zs) tNil (tCons (tVar i) tNil)) σ H C [(f, y)] :=
  fun H1 s Q q => ⟨y, h, rfl, rfl, made1 T no q⟩
theorem mkx2p {K : PySem.W.Frag} {C : Addr} {σ : St} {H : Hp} {f g : Str} {y z : V} {i j : Nat} (T : XC K C) (no : PySem.W.findIn K (.ref C) f = some none) (no2 : PySem.W.findIn K (.ref C) g = some none) (h : σ[i]? = some (some y)) (h2 : σ[j]? = some (some z)) :
    Mkx (tXmk C 2 0 (spI2 K f g) (fun us _ => us) (tCons (tVar i) (tCons (tVar j) tNil)) tNil) σ H C [(g, z), (f, y)] := fun H1 s Q q => ⟨y, h, z, h2, rfl, rfl, made2 T no no2 q⟩
theorem mkx2k {K : PySem.W.Frag} {C : Addr} {σ : St} {H : Hp} {f g : Str} {y z : V} {i j : Nat} (T : XC K C) (no : PySem.W.findIn K (.ref C) f = some none) (no2 : PySem.W.findIn K (.ref C) g = some none) (h : σ[i]? = some (some y)) (h2 : σ[j]? = some (some z)) :
    Mkx (tXmk C 0 2 (spI2 K f g) (fun us zs => us ++ zs.reverse) tNil (tCons (tVar j) (tCons (tVar i) tNil))) σ H C [(g, z), (f, y)] := fun H1 s Q q => ⟨z, h2, y, h, rfl, rfl, made2 T no no2 q⟩
theorem vals_rev : ∀ {xs : List V} {us : List Value}, Vals xs us → Vals xs.reverse us.reverse
  | _, _, .nil => .nil
  | _, _, .cons r t => by
    rw [List.reverse_cons, List.reverse_cons]
    exact (vals_rev t).append (.cons r .nil)
section
variable {P : Program} {w : World} {K : PySem.W.Frag} {mg : Str → Option Value} {base : Heap} {f : Addr} {fd : FuncData}
abbrev sI0 : Stmt := inClass (top 2) 0
abbrev FI0 (K : PySem.W.Frag) (f : Addr) (fd : FuncData) : Prop := FunD K "__init__" "InvalidValue.__init__" (defArgs sI0) (defBody sI0) (defScope sI0) [] [] f fd
theorem scI0 : FnScope ["self", "value"] ["self", "value"] (defScope sI0) := ⟨rfl, rfl, rfl, by decide +kernel, rfl, by decide +kernel, by decide +kernel⟩
theorem okI0 (F : FI0 K f fd) : FnOk P w K mg base CX0 1 f fd ["self", "value"] (spI1 K "value") := by
  refine F.ok scI0 (fun vs H Q E h => ?_) (fun cdv A outer s H vs Q E hr h => ?_)
  · obtain ⟨a, C, y, rfl, _⟩ := h
    rfl
  · obtain ⟨a, C, y, rfl, T, no, e, q⟩ := h
    exact ⟨_, PSs.nox (pss_one (ps_xst (pv 0) (pv 1))), _, rfl, _, rfl, a, C, rfl, T, no, .inl ⟨e, q⟩⟩
theorem bP0 (F : FI0 K f fd) : KBn K fd ["self", "value"] 2 [] (fun us _ => us) (fun us _ => us) := F.kbn 2 (fun us _ => us) (fun r _ => r) fun _ _ _ _ _ _ us ws hl hw => match us, hl, ws, hw with | [_, _], _, [], _ => rfl
theorem bK0 (F : FI0 K f fd) : KBn K fd ["self", "value"] 1 ["value"] (fun us ws => us ++ ws) (fun us ws => us ++ ws) := F.kbn 1 (fun us ws => us ++ ws) (fun r z => r.append z) fun _ _ _ _ _ _ us ws hl hw => match us, hl, ws, hw with | [_], _, [_], _ => rfl
abbrev sI1 : Stmt := inClass (top 14) 0
abbrev FI1 (K : PySem.W.Frag) (f : Addr) (fd : FuncData) : Prop := FunD K "__init__" "InvalidPresence.__init__" (defArgs sI1) (defBody sI1) (defScope sI1) [] [] f fd
theorem scI1 : FnScope ["self", "value"] ["self", "value"] (defScope sI1) := ⟨rfl, rfl, rfl, by decide +kernel, rfl, by decide +kernel, by decide +kernel⟩
theorem okI1 (F : FI1 K f fd) : FnOk P w K mg base CX0 1 f fd ["self", "value"] (spI1 K "value") := by
  refine F.ok scI1 (fun vs H Q E h => ?_) (fun cdv A outer s H vs Q E hr h => ?_)
  · obtain ⟨a, C, y, rfl, _⟩ := h
    rfl
  · obtain ⟨a, C, y, rfl, T, no, e, q⟩ := h
    exact ⟨_, PSs.nox (pss_one (ps_xst (pv 0) (pv 1))), _, rfl, _, rfl, a, C, rfl, T, no, .inl ⟨e, q⟩⟩
theorem bP1 (F : FI1 K f fd) : KBn K fd ["self", "value"] 2 [] (fun us _ => us) (fun us _ => us) := F.kbn 2 (fun us _ => us) (fun r _ => r) fun _ _ _ _ _ _ us ws hl hw => match us, hl, ws, hw with | [_, _], _, [], _ => rfl
theorem bK1 (F : FI1 K f fd) : KBn K fd ["self", "value"] 1 ["value"] (fun us ws => us ++ ws) (fun us ws => us ++ ws) := F.kbn 1 (fun us ws => us ++ ws) (fun r z => r.append z) fun _ _ _ _ _ _ us ws hl hw => match us, hl, ws, hw with | [_], _, [_], _ => rfl
abbrev sI2 : Stmt := inClass (top 16) 0
abbrev FI2 (K : PySem.W.Frag) (f : Addr) (fd : FuncData) : Prop := FunD K "__init__" "NotSettable.__init__" (defArgs sI2) (defBody sI2) (defScope sI2) [] [] f fd
theorem scI2 : FnScope ["self", "value"] ["self", "value"] (defScope sI2) := ⟨rfl, rfl, rfl, by decide +kernel, rfl, by decide +kernel, by decide +kernel⟩
theorem okI2 (F : FI2 K f fd) : FnOk P w K mg base CX0 1 f fd ["self", "value"] (spI1 K "value") := by
  refine F.ok scI2 (fun vs H Q E h => ?_) (fun cdv A outer s H vs Q E hr h => ?_)
  · obtain ⟨a, C, y, rfl, _⟩ := h
    rfl
  · obtain ⟨a, C, y, rfl, T, no, e, q⟩ := h
    exact ⟨_, PSs.nox (pss_one (ps_xst (pv 0) (pv 1))), _, rfl, _, rfl, a, C, rfl, T, no, .inl ⟨e, q⟩⟩
theorem bP2 (F : FI2 K f fd) : KBn K fd ["self", "value"] 2 [] (fun us _ => us) (fun us _ => us) := F.kbn 2 (fun us _ => us) (fun r _ => r) fun _ _ _ _ _ _ us ws hl hw => match us, hl, ws, hw with | [_, _], _, [], _ => rfl
theorem bK2 (F : FI2 K f fd) : KBn K fd ["self", "value"] 1 ["value"] (fun us ws => us ++ ws) (fun us ws => us ++ ws) := F.kbn 1 (fun us ws => us ++ ws) (fun r z => r.append z) fun _ _ _ _ _ _ us ws hl hw => match us, hl, ws, hw with | [_], _, [_], _ => rfl
abbrev sI3 : Stmt := inClass (top 17) 0
abbrev FI3 (K : PySem.W.Frag) (f : Addr) (fd : FuncData) : Prop := FunD K "__init__" "NotRemovable.__init__" (defArgs sI3) (defBody sI3) (defScope sI3) [] [] f fd
theorem scI3 : FnScope ["self", "value"] ["self", "value"] (defScope sI3) := ⟨rfl, rfl, rfl, by decide +kernel, rfl, by decide +kernel, by decide +kernel⟩
theorem okI3 (F : FI3 K f fd) : FnOk P w K mg base CX0 1 f fd ["self", "value"] (spI1 K "value") := by
  refine F.ok scI3 (fun vs H Q E h => ?_) (fun cdv A outer s H vs Q E hr h => ?_)
  · obtain ⟨a, C, y, rfl, _⟩ := h
    rfl
  · obtain ⟨a, C, y, rfl, T, no, e, q⟩ := h
    exact ⟨_, PSs.nox (pss_one (ps_xst (pv 0) (pv 1))), _, rfl, _, rfl, a, C, rfl, T, no, .inl ⟨e, q⟩⟩
theorem bP3 (F : FI3 K f fd) : KBn K fd ["self", "value"] 2 [] (fun us _ => us) (fun us _ => us) := F.kbn 2 (fun us _ => us) (fun r _ => r) fun _ _ _ _ _ _ us ws hl hw => match us, hl, ws, hw with | [_, _], _, [], _ => rfl
theorem bK3 (F : FI3 K f fd) : KBn K fd ["self", "value"] 1 ["value"] (fun us ws => us ++ ws) (fun us ws => us ++ ws) := F.kbn 1 (fun us ws => us ++ ws) (fun r z => r.append z) fun _ _ _ _ _ _ us ws hl hw => match us, hl, ws, hw with | [_], _, [_], _ => rfl
abbrev sI4 : Stmt := inClass (top 20) 0
abbrev FI4 (K : PySem.W.Frag) (f : Addr) (fd : FuncData) : Prop := FunD K "__init__" "InvalidChoice.__init__" (defArgs sI4) (defBody sI4) (defScope sI4) [] [] f fd
theorem scI4 : FnScope ["self", "value"] ["self", "value"] (defScope sI4) := ⟨rfl, rfl, rfl, by decide +kernel, rfl, by decide +kernel, by decide +kernel⟩
theorem okI4 (F : FI4 K f fd) : FnOk P w K mg base CX0 1 f fd ["self", "value"] (spI1 K "value") := by
  refine F.ok scI4 (fun vs H Q E h => ?_) (fun cdv A outer s H vs Q E hr h => ?_)
  · obtain ⟨a, C, y, rfl, _⟩ := h
    rfl
  · obtain ⟨a, C, y, rfl, T, no, e, q⟩ := h
    exact ⟨_, PSs.nox (pss_one (ps_xst (pv 0) (pv 1))), _, rfl, _, rfl, a, C, rfl, T, no, .inl ⟨e, q⟩⟩
theorem bP4 (F : FI4 K f fd) : KBn K fd ["self", "value"] 2 [] (fun us _ => us) (fun us _ => us) := F.kbn 2 (fun us _ => us) (fun r _ => r) fun _ _ _ _ _ _ us ws hl hw => match us, hl, ws, hw with | [_, _], _, [], _ => rfl
theorem bK4 (F : FI4 K f fd) : KBn K fd ["self", "value"] 1 ["value"] (fun us ws => us ++ ws) (fun us ws => us ++ ws) := F.kbn 1 (fun us ws => us ++ ws) (fun r z => r.append z) fun _ _ _ _ _ _ us ws hl hw => match us, hl, ws, hw with | [_], _, [_], _ => rfl
abbrev sI5 : Stmt := inClass (top 22) 0
abbrev FI5 (K : PySem.W.Frag) (f : Addr) (fd : FuncData) : Prop := FunD K "__init__" "InvalidNumber.__init__" (defArgs sI5) (defBody sI5) (defScope sI5) [] [] f fd
theorem scI5 : FnScope ["self", "value"] ["self", "value"] (defScope sI5) := ⟨rfl, rfl, rfl, by decide +kernel, rfl, by decide +kernel, by decide +kernel⟩
theorem okI5 (F : FI5 K f fd) : FnOk P w K mg base CX0 1 f fd ["self", "value"] (spI1 K "value") := by
  refine F.ok scI5 (fun vs H Q E h => ?_) (fun cdv A outer s H vs Q E hr h => ?_)
  · obtain ⟨a, C, y, rfl, _⟩ := h
    rfl
  · obtain ⟨a, C, y, rfl, T, no, e, q⟩ := h
    exact ⟨_, PSs.nox (pss_one (ps_xst (pv 0) (pv 1))), _, rfl, _, rfl, a, C, rfl, T, no, .inl ⟨e, q⟩⟩
theorem bP5 (F : FI5 K f fd) : KBn K fd ["self", "value"] 2 [] (fun us _ => us) (fun us _ => us) := F.kbn 2 (fun us _ => us) (fun r _ => r) fun _ _ _ _ _ _ us ws hl hw => match us, hl, ws, hw with | [_, _], _, [], _ => rfl
theorem bK5 (F : FI5 K f fd) : KBn K fd ["self", "value"] 1 ["value"] (fun us ws => us ++ ws) (fun us ws => us ++ ws) := F.kbn 1 (fun us ws => us ++ ws) (fun r z => r.append z) fun _ _ _ _ _ _ us ws hl hw => match us, hl, ws, hw with | [_], _, [_], _ => rfl
abbrev sI6 : Stmt := inClass (top 24) 0
abbrev FI6 (K : PySem.W.Frag) (f : Addr) (fd : FuncData) : Prop := FunD K "__init__" "InvalidCommand.__init__" (defArgs sI6) (defBody sI6) (defScope sI6) [] [] f fd
theorem scI6 : FnScope ["self", "value"] ["self", "value"] (defScope sI6) := ⟨rfl, rfl, rfl, by decide +kernel, rfl, by decide +kernel, by decide +kernel⟩
theorem okI6 (F : FI6 K f fd) : FnOk P w K mg base CX0 1 f fd ["self", "value"] (spI1 K "value") := by
  refine F.ok scI6 (fun vs H Q E h => ?_) (fun cdv A outer s H vs Q E hr h => ?_)
  · obtain ⟨a, C, y, rfl, _⟩ := h
    rfl
  · obtain ⟨a, C, y, rfl, T, no, e, q⟩ := h
    exact ⟨_, PSs.nox (pss_one (ps_xst (pv 0) (pv 1))), _, rfl, _, rfl, a, C, rfl, T, no, .inl ⟨e, q⟩⟩
theorem bP6 (F : FI6 K f fd) : KBn K fd ["self", "value"] 2 [] (fun us _ => us) (fun us _ => us) := F.kbn 2 (fun us _ => us) (fun r _ => r) fun _ _ _ _ _ _ us ws hl hw => match us, hl, ws, hw with | [_, _], _, [], _ => rfl
theorem bK6 (F : FI6 K f fd) : KBn K fd ["self", "value"] 1 ["value"] (fun us ws => us ++ ws) (fun us ws => us ++ ws) := F.kbn 1 (fun us ws => us ++ ws) (fun r z => r.append z) fun _ _ _ _ _ _ us ws hl hw => match us, hl, ws, hw with | [_], _, [_], _ => rfl
abbrev sI7 : Stmt := inClass (top 25) 0
abbrev FI7 (K : PySem.W.Frag) (f : Addr) (fd : FuncData) : Prop := FunD K "__init__" "InvalidName.__init__" (defArgs sI7) (defBody sI7) (defScope sI7) [] [] f fd
theorem scI7 : FnScope ["self", "value"] ["self", "value"] (defScope sI7) := ⟨rfl, rfl, rfl, by decide +kernel, rfl, by decide +kernel, by decide +kernel⟩
theorem okI7 (F : FI7 K f fd) : FnOk P w K mg base CX0 1 f fd ["self", "value"] (spI1 K "value") := by
  refine F.ok scI7 (fun vs H Q E h => ?_) (fun cdv A outer s H vs Q E hr h => ?_)
  · obtain ⟨a, C, y, rfl, _⟩ := h
    rfl
  · obtain ⟨a, C, y, rfl, T, no, e, q⟩ := h
    exact ⟨_, PSs.nox (pss_one (ps_xst (pv 0) (pv 1))), _, rfl, _, rfl, a, C, rfl, T, no, .inl ⟨e, q⟩⟩
theorem bP7 (F : FI7 K f fd) : KBn K fd ["self", "value"] 2 [] (fun us _ => us) (fun us _ => us) := F.kbn 2 (fun us _ => us) (fun r _ => r) fun _ _ _ _ _ _ us ws hl hw => match us, hl, ws, hw with | [_, _], _, [], _ => rfl
theorem bK7 (F : FI7 K f fd) : KBn K fd ["self", "value"] 1 ["value"] (fun us ws => us ++ ws) (fun us ws => us ++ ws) := F.kbn 1 (fun us ws => us ++ ws) (fun r z => r.append z) fun _ _ _ _ _ _ us ws hl hw => match us, hl, ws, hw with | [_], _, [_], _ => rfl
abbrev sI8 : Stmt := inClass (top 26) 0
abbrev FI8 (K : PySem.W.Frag) (f : Addr) (fd : FuncData) : Prop := FunD K "__init__" "NameTaken.__init__" (defArgs sI8) (defBody sI8) (defScope sI8) [] [] f fd
theorem scI8 : FnScope ["self", "value"] ["self", "value"] (defScope sI8) := ⟨rfl, rfl, rfl, by decide +kernel, rfl, by decide +kernel, by decide +kernel⟩
theorem okI8 (F : FI8 K f fd) : FnOk P w K mg base CX0 1 f fd ["self", "value"] (spI1 K "value") := by
  refine F.ok scI8 (fun vs H Q E h => ?_) (fun cdv A outer s H vs Q E hr h => ?_)
  · obtain ⟨a, C, y, rfl, _⟩ := h
    rfl
  · obtain ⟨a, C, y, rfl, T, no, e, q⟩ := h
    exact ⟨_, PSs.nox (pss_one (ps_xst (pv 0) (pv 1))), _, rfl, _, rfl, a, C, rfl, T, no, .inl ⟨e, q⟩⟩
theorem bP8 (F : FI8 K f fd) : KBn K fd ["self", "value"] 2 [] (fun us _ => us) (fun us _ => us) := F.kbn 2 (fun us _ => us) (fun r _ => r) fun _ _ _ _ _ _ us ws hl hw => match us, hl, ws, hw with | [_, _], _, [], _ => rfl
theorem bK8 (F : FI8 K f fd) : KBn K fd ["self", "value"] 1 ["value"] (fun us ws => us ++ ws) (fun us ws => us ++ ws) := F.kbn 1 (fun us ws => us ++ ws) (fun r z => r.append z) fun _ _ _ _ _ _ us ws hl hw => match us, hl, ws, hw with | [_], _, [_], _ => rfl
abbrev sI9 : Stmt := inClass (top 28) 0
abbrev FI9 (K : PySem.W.Frag) (f : Addr) (fd : FuncData) : Prop := FunD K "__init__" "UnknownProgram.__init__" (defArgs sI9) (defBody sI9) (defScope sI9) [] [] f fd
theorem scI9 : FnScope ["self", "value"] ["self", "value"] (defScope sI9) := ⟨rfl, rfl, rfl, by decide +kernel, rfl, by decide +kernel, by decide +kernel⟩
theorem okI9 (F : FI9 K f fd) : FnOk P w K mg base CX0 1 f fd ["self", "value"] (spI1 K "value") := by
  refine F.ok scI9 (fun vs H Q E h => ?_) (fun cdv A outer s H vs Q E hr h => ?_)
  · obtain ⟨a, C, y, rfl, _⟩ := h
    rfl
  · obtain ⟨a, C, y, rfl, T, no, e, q⟩ := h
    exact ⟨_, PSs.nox (pss_one (ps_xst (pv 0) (pv 1))), _, rfl, _, rfl, a, C, rfl, T, no, .inl ⟨e, q⟩⟩
theorem bP9 (F : FI9 K f fd) : KBn K fd ["self", "value"] 2 [] (fun us _ => us) (fun us _ => us) := F.kbn 2 (fun us _ => us) (fun r _ => r) fun _ _ _ _ _ _ us ws hl hw => match us, hl, ws, hw with | [_, _], _, [], _ => rfl
theorem bK9 (F : FI9 K f fd) : KBn K fd ["self", "value"] 1 ["value"] (fun us ws => us ++ ws) (fun us ws => us ++ ws) := F.kbn 1 (fun us ws => us ++ ws) (fun r z => r.append z) fun _ _ _ _ _ _ us ws hl hw => match us, hl, ws, hw with | [_], _, [_], _ => rfl
abbrev sI10 : Stmt := inClass (top 29) 0
abbrev FI10 (K : PySem.W.Frag) (f : Addr) (fd : FuncData) : Prop := FunD K "__init__" "UnknownOwn.__init__" (defArgs sI10) (defBody sI10) (defScope sI10) [] [] f fd
theorem scI10 : FnScope ["self", "value"] ["self", "value"] (defScope sI10) := ⟨rfl, rfl, rfl, by decide +kernel, rfl, by decide +kernel, by decide +kernel⟩
theorem okI10 (F : FI10 K f fd) : FnOk P w K mg base CX0 1 f fd ["self", "value"] (spI1 K "value") := by
  refine F.ok scI10 (fun vs H Q E h => ?_) (fun cdv A outer s H vs Q E hr h => ?_)
  · obtain ⟨a, C, y, rfl, _⟩ := h
    rfl
  · obtain ⟨a, C, y, rfl, T, no, e, q⟩ := h
    exact ⟨_, PSs.nox (pss_one (ps_xst (pv 0) (pv 1))), _, rfl, _, rfl, a, C, rfl, T, no, .inl ⟨e, q⟩⟩
theorem bP10 (F : FI10 K f fd) : KBn K fd ["self", "value"] 2 [] (fun us _ => us) (fun us _ => us) := F.kbn 2 (fun us _ => us) (fun r _ => r) fun _ _ _ _ _ _ us ws hl hw => match us, hl, ws, hw with | [_, _], _, [], _ => rfl
theorem bK10 (F : FI10 K f fd) : KBn K fd ["self", "value"] 1 ["value"] (fun us ws => us ++ ws) (fun us ws => us ++ ws) := F.kbn 1 (fun us ws => us ++ ws) (fun r z => r.append z) fun _ _ _ _ _ _ us ws hl hw => match us, hl, ws, hw with | [_], _, [_], _ => rfl
abbrev sI11 : Stmt := inClass (top 30) 0
abbrev FI11 (K : PySem.W.Frag) (f : Addr) (fd : FuncData) : Prop := FunD K "__init__" "UnknownField.__init__" (defArgs sI11) (defBody sI11) (defScope sI11) [] [] f fd
theorem scI11 : FnScope ["self", "value"] ["self", "value"] (defScope sI11) := ⟨rfl, rfl, rfl, by decide +kernel, rfl, by decide +kernel, by decide +kernel⟩
theorem okI11 (F : FI11 K f fd) : FnOk P w K mg base CX0 1 f fd ["self", "value"] (spI1 K "value") := by
  refine F.ok scI11 (fun vs H Q E h => ?_) (fun cdv A outer s H vs Q E hr h => ?_)
  · obtain ⟨a, C, y, rfl, _⟩ := h
    rfl
  · obtain ⟨a, C, y, rfl, T, no, e, q⟩ := h
    exact ⟨_, PSs.nox (pss_one (ps_xst (pv 0) (pv 1))), _, rfl, _, rfl, a, C, rfl, T, no, .inl ⟨e, q⟩⟩
theorem bP11 (F : FI11 K f fd) : KBn K fd ["self", "value"] 2 [] (fun us _ => us) (fun us _ => us) := F.kbn 2 (fun us _ => us) (fun r _ => r) fun _ _ _ _ _ _ us ws hl hw => match us, hl, ws, hw with | [_, _], _, [], _ => rfl
theorem bK11 (F : FI11 K f fd) : KBn K fd ["self", "value"] 1 ["value"] (fun us ws => us ++ ws) (fun us ws => us ++ ws) := F.kbn 1 (fun us ws => us ++ ws) (fun r z => r.append z) fun _ _ _ _ _ _ us ws hl hw => match us, hl, ws, hw with | [_], _, [_], _ => rfl
abbrev sI12 : Stmt := inClass (top 31) 0
abbrev FI12 (K : PySem.W.Frag) (f : Addr) (fd : FuncData) : Prop := FunD K "__init__" "UnknownList.__init__" (defArgs sI12) (defBody sI12) (defScope sI12) [] [] f fd
theorem scI12 : FnScope ["self", "value"] ["self", "value"] (defScope sI12) := ⟨rfl, rfl, rfl, by decide +kernel, rfl, by decide +kernel, by decide +kernel⟩
theorem okI12 (F : FI12 K f fd) : FnOk P w K mg base CX0 1 f fd ["self", "value"] (spI1 K "value") := by
  refine F.ok scI12 (fun vs H Q E h => ?_) (fun cdv A outer s H vs Q E hr h => ?_)
  · obtain ⟨a, C, y, rfl, _⟩ := h
    rfl
  · obtain ⟨a, C, y, rfl, T, no, e, q⟩ := h
    exact ⟨_, PSs.nox (pss_one (ps_xst (pv 0) (pv 1))), _, rfl, _, rfl, a, C, rfl, T, no, .inl ⟨e, q⟩⟩
theorem bP12 (F : FI12 K f fd) : KBn K fd ["self", "value"] 2 [] (fun us _ => us) (fun us _ => us) := F.kbn 2 (fun us _ => us) (fun r _ => r) fun _ _ _ _ _ _ us ws hl hw => match us, hl, ws, hw with | [_, _], _, [], _ => rfl
theorem bK12 (F : FI12 K f fd) : KBn K fd ["self", "value"] 1 ["value"] (fun us ws => us ++ ws) (fun us ws => us ++ ws) := F.kbn 1 (fun us ws => us ++ ws) (fun r z => r.append z) fun _ _ _ _ _ _ us ws hl hw => match us, hl, ws, hw with | [_], _, [_], _ => rfl
abbrev sI13 : Stmt := inClass (top 32) 0
abbrev FI13 (K : PySem.W.Frag) (f : Addr) (fd : FuncData) : Prop := FunD K "__init__" "UnknownName.__init__" (defArgs sI13) (defBody sI13) (defScope sI13) [] [] f fd
theorem scI13 : FnScope ["self", "value"] ["self", "value"] (defScope sI13) := ⟨rfl, rfl, rfl, by decide +kernel, rfl, by decide +kernel, by decide +kernel⟩
theorem okI13 (F : FI13 K f fd) : FnOk P w K mg base CX0 1 f fd ["self", "value"] (spI1 K "value") := by
  refine F.ok scI13 (fun vs H Q E h => ?_) (fun cdv A outer s H vs Q E hr h => ?_)
  · obtain ⟨a, C, y, rfl, _⟩ := h
    rfl
  · obtain ⟨a, C, y, rfl, T, no, e, q⟩ := h
    exact ⟨_, PSs.nox (pss_one (ps_xst (pv 0) (pv 1))), _, rfl, _, rfl, a, C, rfl, T, no, .inl ⟨e, q⟩⟩
theorem bP13 (F : FI13 K f fd) : KBn K fd ["self", "value"] 2 [] (fun us _ => us) (fun us _ => us) := F.kbn 2 (fun us _ => us) (fun r _ => r) fun _ _ _ _ _ _ us ws hl hw => match us, hl, ws, hw with | [_, _], _, [], _ => rfl
theorem bK13 (F : FI13 K f fd) : KBn K fd ["self", "value"] 1 ["value"] (fun us ws => us ++ ws) (fun us ws => us ++ ws) := F.kbn 1 (fun us ws => us ++ ws) (fun r z => r.append z) fun _ _ _ _ _ _ us ws hl hw => match us, hl, ws, hw with | [_], _, [_], _ => rfl
abbrev sI14 : Stmt := inClass (top 3) 0
abbrev FI14 (K : PySem.W.Frag) (f : Addr) (fd : FuncData) : Prop := FunD K "__init__" "InvalidSet.__init__" (defArgs sI14) (defBody sI14) (defScope sI14) [] [] f fd
theorem scI14 : FnScope ["self", "position"] ["self", "position"] (defScope sI14) := ⟨rfl, rfl, rfl, by decide +kernel, rfl, by decide +kernel, by decide +kernel⟩
theorem okI14 (F : FI14 K f fd) : FnOk P w K mg base CX0 1 f fd ["self", "position"] (spI1 K "position") := by
  refine F.ok scI14 (fun vs H Q E h => ?_) (fun cdv A outer s H vs Q E hr h => ?_)
  · obtain ⟨a, C, y, rfl, _⟩ := h
    rfl
  · obtain ⟨a, C, y, rfl, T, no, e, q⟩ := h
    exact ⟨_, PSs.nox (pss_one (ps_xst (pv 0) (pv 1))), _, rfl, _, rfl, a, C, rfl, T, no, .inl ⟨e, q⟩⟩
theorem bP14 (F : FI14 K f fd) : KBn K fd ["self", "position"] 2 [] (fun us _ => us) (fun us _ => us) := F.kbn 2 (fun us _ => us) (fun r _ => r) fun _ _ _ _ _ _ us ws hl hw => match us, hl, ws, hw with | [_, _], _, [], _ => rfl
theorem bK14 (F : FI14 K f fd) : KBn K fd ["self", "position"] 1 ["position"] (fun us ws => us ++ ws) (fun us ws => us ++ ws) := F.kbn 1 (fun us ws => us ++ ws) (fun r z => r.append z) fun _ _ _ _ _ _ us ws hl hw => match us, hl, ws, hw with | [_], _, [_], _ => rfl
abbrev sI15 : Stmt := inClass (top 4) 0
abbrev FI15 (K : PySem.W.Frag) (f : Addr) (fd : FuncData) : Prop := FunD K "__init__" "InvalidMap.__init__" (defArgs sI15) (defBody sI15) (defScope sI15) [] [] f fd
theorem scI15 : FnScope ["self", "position"] ["self", "position"] (defScope sI15) := ⟨rfl, rfl, rfl, by decide +kernel, rfl, by decide +kernel, by decide +kernel⟩
theorem okI15 (F : FI15 K f fd) : FnOk P w K mg base CX0 1 f fd ["self", "position"] (spI1 K "position") := by
  refine F.ok scI15 (fun vs H Q E h => ?_) (fun cdv A outer s H vs Q E hr h => ?_)
  · obtain ⟨a, C, y, rfl, _⟩ := h
    rfl
  · obtain ⟨a, C, y, rfl, T, no, e, q⟩ := h
    exact ⟨_, PSs.nox (pss_one (ps_xst (pv 0) (pv 1))), _, rfl, _, rfl, a, C, rfl, T, no, .inl ⟨e, q⟩⟩
theorem bP15 (F : FI15 K f fd) : KBn K fd ["self", "position"] 2 [] (fun us _ => us) (fun us _ => us) := F.kbn 2 (fun us _ => us) (fun r _ => r) fun _ _ _ _ _ _ us ws hl hw => match us, hl, ws, hw with | [_, _], _, [], _ => rfl
theorem bK15 (F : FI15 K f fd) : KBn K fd ["self", "position"] 1 ["position"] (fun us ws => us ++ ws) (fun us ws => us ++ ws) := F.kbn 1 (fun us ws => us ++ ws) (fun r z => r.append z) fun _ _ _ _ _ _ us ws hl hw => match us, hl, ws, hw with | [_], _, [_], _ => rfl
abbrev sI16 : Stmt := inClass (top 11) 0
abbrev FI16 (K : PySem.W.Frag) (f : Addr) (fd : FuncData) : Prop := FunD K "__init__" "InvalidStep.__init__" (defArgs sI16) (defBody sI16) (defScope sI16) [] [] f fd
theorem scI16 : FnScope ["self", "position"] ["self", "position"] (defScope sI16) := ⟨rfl, rfl, rfl, by decide +kernel, rfl, by decide +kernel, by decide +kernel⟩
theorem okI16 (F : FI16 K f fd) : FnOk P w K mg base CX0 1 f fd ["self", "position"] (spI1 K "position") := by
  refine F.ok scI16 (fun vs H Q E h => ?_) (fun cdv A outer s H vs Q E hr h => ?_)
  · obtain ⟨a, C, y, rfl, _⟩ := h
    rfl
  · obtain ⟨a, C, y, rfl, T, no, e, q⟩ := h
    exact ⟨_, PSs.nox (pss_one (ps_xst (pv 0) (pv 1))), _, rfl, _, rfl, a, C, rfl, T, no, .inl ⟨e, q⟩⟩
theorem bP16 (F : FI16 K f fd) : KBn K fd ["self", "position"] 2 [] (fun us _ => us) (fun us _ => us) := F.kbn 2 (fun us _ => us) (fun r _ => r) fun _ _ _ _ _ _ us ws hl hw => match us, hl, ws, hw with | [_, _], _, [], _ => rfl
theorem bK16 (F : FI16 K f fd) : KBn K fd ["self", "position"] 1 ["position"] (fun us ws => us ++ ws) (fun us ws => us ++ ws) := F.kbn 1 (fun us ws => us ++ ws) (fun r z => r.append z) fun _ _ _ _ _ _ us ws hl hw => match us, hl, ws, hw with | [_], _, [_], _ => rfl
abbrev sI17 : Stmt := inClass (top 12) 0
abbrev FI17 (K : PySem.W.Frag) (f : Addr) (fd : FuncData) : Prop := FunD K "__init__" "InvalidRow.__init__" (defArgs sI17) (defBody sI17) (defScope sI17) [] [] f fd
theorem scI17 : FnScope ["self", "position"] ["self", "position"] (defScope sI17) := ⟨rfl, rfl, rfl, by decide +kernel, rfl, by decide +kernel, by decide +kernel⟩
theorem okI17 (F : FI17 K f fd) : FnOk P w K mg base CX0 1 f fd ["self", "position"] (spI1 K "position") := by
  refine F.ok scI17 (fun vs H Q E h => ?_) (fun cdv A outer s H vs Q E hr h => ?_)
  · obtain ⟨a, C, y, rfl, _⟩ := h
    rfl
  · obtain ⟨a, C, y, rfl, T, no, e, q⟩ := h
    exact ⟨_, PSs.nox (pss_one (ps_xst (pv 0) (pv 1))), _, rfl, _, rfl, a, C, rfl, T, no, .inl ⟨e, q⟩⟩
theorem bP17 (F : FI17 K f fd) : KBn K fd ["self", "position"] 2 [] (fun us _ => us) (fun us _ => us) := F.kbn 2 (fun us _ => us) (fun r _ => r) fun _ _ _ _ _ _ us ws hl hw => match us, hl, ws, hw with | [_, _], _, [], _ => rfl
theorem bK17 (F : FI17 K f fd) : KBn K fd ["self", "position"] 1 ["position"] (fun us ws => us ++ ws) (fun us ws => us ++ ws) := F.kbn 1 (fun us ws => us ++ ws) (fun r z => r.append z) fun _ _ _ _ _ _ us ws hl hw => match us, hl, ws, hw with | [_], _, [_], _ => rfl
abbrev sI18 : Stmt := inClass (top 13) 0
abbrev FI18 (K : PySem.W.Frag) (f : Addr) (fd : FuncData) : Prop := FunD K "__init__" "InvalidList.__init__" (defArgs sI18) (defBody sI18) (defScope sI18) [] [] f fd
theorem scI18 : FnScope ["self", "position"] ["self", "position"] (defScope sI18) := ⟨rfl, rfl, rfl, by decide +kernel, rfl, by decide +kernel, by decide +kernel⟩
theorem okI18 (F : FI18 K f fd) : FnOk P w K mg base CX0 1 f fd ["self", "position"] (spI1 K "position") := by
  refine F.ok scI18 (fun vs H Q E h => ?_) (fun cdv A outer s H vs Q E hr h => ?_)
  · obtain ⟨a, C, y, rfl, _⟩ := h
    rfl
  · obtain ⟨a, C, y, rfl, T, no, e, q⟩ := h
    exact ⟨_, PSs.nox (pss_one (ps_xst (pv 0) (pv 1))), _, rfl, _, rfl, a, C, rfl, T, no, .inl ⟨e, q⟩⟩
theorem bP18 (F : FI18 K f fd) : KBn K fd ["self", "position"] 2 [] (fun us _ => us) (fun us _ => us) := F.kbn 2 (fun us _ => us) (fun r _ => r) fun _ _ _ _ _ _ us ws hl hw => match us, hl, ws, hw with | [_, _], _, [], _ => rfl
theorem bK18 (F : FI18 K f fd) : KBn K fd ["self", "position"] 1 ["position"] (fun us ws => us ++ ws) (fun us ws => us ++ ws) := F.kbn 1 (fun us ws => us ++ ws) (fun r z => r.append z) fun _ _ _ _ _ _ us ws hl hw => match us, hl, ws, hw with | [_], _, [_], _ => rfl
abbrev sI19 : Stmt := inClass (top 18) 0
abbrev FI19 (K : PySem.W.Frag) (f : Addr) (fd : FuncData) : Prop := FunD K "__init__" "InvalidWish.__init__" (defArgs sI19) (defBody sI19) (defScope sI19) [] [] f fd
theorem scI19 : FnScope ["self", "position"] ["self", "position"] (defScope sI19) := ⟨rfl, rfl, rfl, by decide +kernel, rfl, by decide +kernel, by decide +kernel⟩
theorem okI19 (F : FI19 K f fd) : FnOk P w K mg base CX0 1 f fd ["self", "position"] (spI1 K "position") := by
  refine F.ok scI19 (fun vs H Q E h => ?_) (fun cdv A outer s H vs Q E hr h => ?_)
  · obtain ⟨a, C, y, rfl, _⟩ := h
    rfl
  · obtain ⟨a, C, y, rfl, T, no, e, q⟩ := h
    exact ⟨_, PSs.nox (pss_one (ps_xst (pv 0) (pv 1))), _, rfl, _, rfl, a, C, rfl, T, no, .inl ⟨e, q⟩⟩
theorem bP19 (F : FI19 K f fd) : KBn K fd ["self", "position"] 2 [] (fun us _ => us) (fun us _ => us) := F.kbn 2 (fun us _ => us) (fun r _ => r) fun _ _ _ _ _ _ us ws hl hw => match us, hl, ws, hw with | [_, _], _, [], _ => rfl
theorem bK19 (F : FI19 K f fd) : KBn K fd ["self", "position"] 1 ["position"] (fun us ws => us ++ ws) (fun us ws => us ++ ws) := F.kbn 1 (fun us ws => us ++ ws) (fun r z => r.append z) fun _ _ _ _ _ _ us ws hl hw => match us, hl, ws, hw with | [_], _, [_], _ => rfl
abbrev sI20 : Stmt := inClass (top 19) 0
abbrev FI20 (K : PySem.W.Frag) (f : Addr) (fd : FuncData) : Prop := FunD K "__init__" "InvalidOffer.__init__" (defArgs sI20) (defBody sI20) (defScope sI20) [] [] f fd
theorem scI20 : FnScope ["self", "position"] ["self", "position"] (defScope sI20) := ⟨rfl, rfl, rfl, by decide +kernel, rfl, by decide +kernel, by decide +kernel⟩
theorem okI20 (F : FI20 K f fd) : FnOk P w K mg base CX0 1 f fd ["self", "position"] (spI1 K "position") := by
  refine F.ok scI20 (fun vs H Q E h => ?_) (fun cdv A outer s H vs Q E hr h => ?_)
  · obtain ⟨a, C, y, rfl, _⟩ := h
    rfl
  · obtain ⟨a, C, y, rfl, T, no, e, q⟩ := h
    exact ⟨_, PSs.nox (pss_one (ps_xst (pv 0) (pv 1))), _, rfl, _, rfl, a, C, rfl, T, no, .inl ⟨e, q⟩⟩
theorem bP20 (F : FI20 K f fd) : KBn K fd ["self", "position"] 2 [] (fun us _ => us) (fun us _ => us) := F.kbn 2 (fun us _ => us) (fun r _ => r) fun _ _ _ _ _ _ us ws hl hw => match us, hl, ws, hw with | [_, _], _, [], _ => rfl
theorem bK20 (F : FI20 K f fd) : KBn K fd ["self", "position"] 1 ["position"] (fun us ws => us ++ ws) (fun us ws => us ++ ws) := F.kbn 1 (fun us ws => us ++ ws) (fun r z => r.append z) fun _ _ _ _ _ _ us ws hl hw => match us, hl, ws, hw with | [_], _, [_], _ => rfl
abbrev sI21 : Stmt := inClass (top 21) 0
abbrev FI21 (K : PySem.W.Frag) (f : Addr) (fd : FuncData) : Prop := FunD K "__init__" "InvalidCopies.__init__" (defArgs sI21) (defBody sI21) (defScope sI21) [] [] f fd
theorem scI21 : FnScope ["self", "position"] ["self", "position"] (defScope sI21) := ⟨rfl, rfl, rfl, by decide +kernel, rfl, by decide +kernel, by decide +kernel⟩
theorem okI21 (F : FI21 K f fd) : FnOk P w K mg base CX0 1 f fd ["self", "position"] (spI1 K "position") := by
  refine F.ok scI21 (fun vs H Q E h => ?_) (fun cdv A outer s H vs Q E hr h => ?_)
  · obtain ⟨a, C, y, rfl, _⟩ := h
    rfl
  · obtain ⟨a, C, y, rfl, T, no, e, q⟩ := h
    exact ⟨_, PSs.nox (pss_one (ps_xst (pv 0) (pv 1))), _, rfl, _, rfl, a, C, rfl, T, no, .inl ⟨e, q⟩⟩
theorem bP21 (F : FI21 K f fd) : KBn K fd ["self", "position"] 2 [] (fun us _ => us) (fun us _ => us) := F.kbn 2 (fun us _ => us) (fun r _ => r) fun _ _ _ _ _ _ us ws hl hw => match us, hl, ws, hw with | [_, _], _, [], _ => rfl
theorem bK21 (F : FI21 K f fd) : KBn K fd ["self", "position"] 1 ["position"] (fun us ws => us ++ ws) (fun us ws => us ++ ws) := F.kbn 1 (fun us ws => us ++ ws) (fun r z => r.append z) fun _ _ _ _ _ _ us ws hl hw => match us, hl, ws, hw with | [_], _, [_], _ => rfl
abbrev sI22 : Stmt := inClass (top 9) 0
abbrev FI22 (K : PySem.W.Frag) (f : Addr) (fd : FuncData) : Prop := FunD K "__init__" "InvalidDocument.__init__" (defArgs sI22) (defBody sI22) (defScope sI22) [] [] f fd
theorem scI22 : FnScope ["self", "key"] ["self", "key"] (defScope sI22) := ⟨rfl, rfl, rfl, by decide +kernel, rfl, by decide +kernel, by decide +kernel⟩
theorem okI22 (F : FI22 K f fd) : FnOk P w K mg base CX0 1 f fd ["self", "key"] (spI1 K "key") := by
  refine F.ok scI22 (fun vs H Q E h => ?_) (fun cdv A outer s H vs Q E hr h => ?_)
  · obtain ⟨a, C, y, rfl, _⟩ := h
    rfl
  · obtain ⟨a, C, y, rfl, T, no, e, q⟩ := h
    exact ⟨_, PSs.nox (pss_one (ps_xst (pv 0) (pv 1))), _, rfl, _, rfl, a, C, rfl, T, no, .inl ⟨e, q⟩⟩
theorem bP22 (F : FI22 K f fd) : KBn K fd ["self", "key"] 2 [] (fun us _ => us) (fun us _ => us) := F.kbn 2 (fun us _ => us) (fun r _ => r) fun _ _ _ _ _ _ us ws hl hw => match us, hl, ws, hw with | [_, _], _, [], _ => rfl
theorem bK22 (F : FI22 K f fd) : KBn K fd ["self", "key"] 1 ["key"] (fun us ws => us ++ ws) (fun us ws => us ++ ws) := F.kbn 1 (fun us ws => us ++ ws) (fun r z => r.append z) fun _ _ _ _ _ _ us ws hl hw => match us, hl, ws, hw with | [_], _, [_], _ => rfl
abbrev sI23 : Stmt := inClass (top 10) 0
abbrev FI23 (K : PySem.W.Frag) (f : Addr) (fd : FuncData) : Prop := FunD K "__init__" "InvalidEdit.__init__" (defArgs sI23) (defBody sI23) (defScope sI23) [] [] f fd
theorem scI23 : FnScope ["self", "key"] ["self", "key"] (defScope sI23) := ⟨rfl, rfl, rfl, by decide +kernel, rfl, by decide +kernel, by decide +kernel⟩
theorem okI23 (F : FI23 K f fd) : FnOk P w K mg base CX0 1 f fd ["self", "key"] (spI1 K "key") := by
  refine F.ok scI23 (fun vs H Q E h => ?_) (fun cdv A outer s H vs Q E hr h => ?_)
  · obtain ⟨a, C, y, rfl, _⟩ := h
    rfl
  · obtain ⟨a, C, y, rfl, T, no, e, q⟩ := h
    exact ⟨_, PSs.nox (pss_one (ps_xst (pv 0) (pv 1))), _, rfl, _, rfl, a, C, rfl, T, no, .inl ⟨e, q⟩⟩
theorem bP23 (F : FI23 K f fd) : KBn K fd ["self", "key"] 2 [] (fun us _ => us) (fun us _ => us) := F.kbn 2 (fun us _ => us) (fun r _ => r) fun _ _ _ _ _ _ us ws hl hw => match us, hl, ws, hw with | [_, _], _, [], _ => rfl
theorem bK23 (F : FI23 K f fd) : KBn K fd ["self", "key"] 1 ["key"] (fun us ws => us ++ ws) (fun us ws => us ++ ws) := F.kbn 1 (fun us ws => us ++ ws) (fun r z => r.append z) fun _ _ _ _ _ _ us ws hl hw => match us, hl, ws, hw with | [_], _, [_], _ => rfl
abbrev sI24 : Stmt := inClass (top 5) 0
abbrev FI24 (K : PySem.W.Frag) (f : Addr) (fd : FuncData) : Prop := FunD K "__init__" "InvalidOwn.__init__" (defArgs sI24) (defBody sI24) (defScope sI24) [] [] f fd
theorem scI24 : FnScope ["self", "part", "position"] ["self", "part", "position"] (defScope sI24) := ⟨rfl, rfl, rfl, by decide +kernel, rfl, by decide +kernel, by decide +kernel⟩
theorem okI24 (F : FI24 K f fd) : FnOk P w K mg base CX0 1 f fd ["self", "part", "position"] (spI2 K "part" "position") := by
  refine F.ok scI24 (fun vs H Q E h => ?_) (fun cdv A outer s H vs Q E hr h => ?_)
  · obtain ⟨a, C, y, z, rfl, _⟩ := h
    rfl
  · obtain ⟨a, C, y, z, rfl, T, no, no2, e, q⟩ := h
    exact ⟨_, PSs.nox (pss_cons (ps_xst (pv 0) (pv 1)) (pss_one (ps_xst (pv 0) (pv 2)))), _, rfl, _, rfl, a, C, rfl, T, no, .inl ⟨e, fun dx hd ne => ⟨_, rfl, _, rfl, a, C, rfl, T, no2, .inr ⟨dx, _, upd_same, (by rw [upd_ne ne, upd_same]), by show 1 ≤ 900; decide, q dx hd ne⟩⟩⟩⟩
theorem bP24 (F : FI24 K f fd) : KBn K fd ["self", "part", "position"] 3 [] (fun us _ => us) (fun us _ => us) := F.kbn 3 (fun us _ => us) (fun r _ => r) fun _ _ _ _ _ _ us ws hl hw => match us, hl, ws, hw with | [_, _, _], _, [], _ => rfl
theorem bK24 (F : FI24 K f fd) : KBn K fd ["self", "part", "position"] 1 ["position", "part"] (fun us ws => us ++ ws.reverse) (fun us ws => us ++ ws.reverse) := F.kbn 1 (fun us ws => us ++ ws.reverse) (fun r z => r.append (vals_rev z)) fun _ _ _ _ _ _ us ws hl hw => match us, hl, ws, hw with | [_], _, [_, _], _ => rfl
abbrev sI25 : Stmt := inClass (top 15) 0
abbrev FI25 (K : PySem.W.Frag) (f : Addr) (fd : FuncData) : Prop := FunD K "__init__" "InvalidBeginnings.__init__" (defArgs sI25) (defBody sI25) (defScope sI25) [] [] f fd
theorem scI25 : FnScope ["self", "part", "position"] ["self", "part", "position"] (defScope sI25) := ⟨rfl, rfl, rfl, by decide +kernel, rfl, by decide +kernel, by decide +kernel⟩
theorem okI25 (F : FI25 K f fd) : FnOk P w K mg base CX0 1 f fd ["self", "part", "position"] (spI2 K "part" "position") := by
  refine F.ok scI25 (fun vs H Q E h => ?_) (fun cdv A outer s H vs Q E hr h => ?_)
  · obtain ⟨a, C, y, z, rfl, _⟩ := h
    rfl
  · obtain ⟨a, C, y, z, rfl, T, no, no2, e, q⟩ := h
    exact ⟨_, PSs.nox (pss_cons (ps_xst (pv 0) (pv 1)) (pss_one (ps_xst (pv 0) (pv 2)))), _, rfl, _, rfl, a, C, rfl, T, no, .inl ⟨e, fun dx hd ne => ⟨_, rfl, _, rfl, a, C, rfl, T, no2, .inr ⟨dx, _, upd_same, (by rw [upd_ne ne, upd_same]), by show 1 ≤ 900; decide, q dx hd ne⟩⟩⟩⟩
theorem bP25 (F : FI25 K f fd) : KBn K fd ["self", "part", "position"] 3 [] (fun us _ => us) (fun us _ => us) := F.kbn 3 (fun us _ => us) (fun r _ => r) fun _ _ _ _ _ _ us ws hl hw => match us, hl, ws, hw with | [_, _, _], _, [], _ => rfl
theorem bK25 (F : FI25 K f fd) : KBn K fd ["self", "part", "position"] 1 ["position", "part"] (fun us ws => us ++ ws.reverse) (fun us ws => us ++ ws.reverse) := F.kbn 1 (fun us ws => us ++ ws.reverse) (fun r z => r.append (vals_rev z)) fun _ _ _ _ _ _ us ws hl hw => match us, hl, ws, hw with | [_], _, [_, _], _ => rfl
abbrev sI26 : Stmt := inClass (top 7) 0
abbrev FI26 (K : PySem.W.Frag) (f : Addr) (fd : FuncData) : Prop := FunD K "__init__" "InvalidProgram.__init__" (defArgs sI26) (defBody sI26) (defScope sI26) [] [] f fd
theorem scI26 : FnScope ["self", "part", "key"] ["self", "part", "key"] (defScope sI26) := ⟨rfl, rfl, rfl, by decide +kernel, rfl, by decide +kernel, by decide +kernel⟩
theorem okI26 (F : FI26 K f fd) : FnOk P w K mg base CX0 1 f fd ["self", "part", "key"] (spI2 K "part" "key") := by
  refine F.ok scI26 (fun vs H Q E h => ?_) (fun cdv A outer s H vs Q E hr h => ?_)
  · obtain ⟨a, C, y, z, rfl, _⟩ := h
    rfl
  · obtain ⟨a, C, y, z, rfl, T, no, no2, e, q⟩ := h
    exact ⟨_, PSs.nox (pss_cons (ps_xst (pv 0) (pv 1)) (pss_one (ps_xst (pv 0) (pv 2)))), _, rfl, _, rfl, a, C, rfl, T, no, .inl ⟨e, fun dx hd ne => ⟨_, rfl, _, rfl, a, C, rfl, T, no2, .inr ⟨dx, _, upd_same, (by rw [upd_ne ne, upd_same]), by show 1 ≤ 900; decide, q dx hd ne⟩⟩⟩⟩
theorem bP26 (F : FI26 K f fd) : KBn K fd ["self", "part", "key"] 3 [] (fun us _ => us) (fun us _ => us) := F.kbn 3 (fun us _ => us) (fun r _ => r) fun _ _ _ _ _ _ us ws hl hw => match us, hl, ws, hw with | [_, _, _], _, [], _ => rfl
theorem bK26 (F : FI26 K f fd) : KBn K fd ["self", "part", "key"] 1 ["key", "part"] (fun us ws => us ++ ws.reverse) (fun us ws => us ++ ws.reverse) := F.kbn 1 (fun us ws => us ++ ws.reverse) (fun r z => r.append (vals_rev z)) fun _ _ _ _ _ _ us ws hl hw => match us, hl, ws, hw with | [_], _, [_, _], _ => rfl
abbrev sI27 : Stmt := inClass (top 8) 0
abbrev FI27 (K : PySem.W.Frag) (f : Addr) (fd : FuncData) : Prop := FunD K "__init__" "InvalidWorld.__init__" (defArgs sI27) (defBody sI27) (defScope sI27) [] [] f fd
theorem scI27 : FnScope ["self", "part", "key"] ["self", "part", "key"] (defScope sI27) := ⟨rfl, rfl, rfl, by decide +kernel, rfl, by decide +kernel, by decide +kernel⟩
theorem okI27 (F : FI27 K f fd) : FnOk P w K mg base CX0 1 f fd ["self", "part", "key"] (spI2 K "part" "key") := by
  refine F.ok scI27 (fun vs H Q E h => ?_) (fun cdv A outer s H vs Q E hr h => ?_)
  · obtain ⟨a, C, y, z, rfl, _⟩ := h
    rfl
  · obtain ⟨a, C, y, z, rfl, T, no, no2, e, q⟩ := h
    exact ⟨_, PSs.nox (pss_cons (ps_xst (pv 0) (pv 1)) (pss_one (ps_xst (pv 0) (pv 2)))), _, rfl, _, rfl, a, C, rfl, T, no, .inl ⟨e, fun dx hd ne => ⟨_, rfl, _, rfl, a, C, rfl, T, no2, .inr ⟨dx, _, upd_same, (by rw [upd_ne ne, upd_same]), by show 1 ≤ 900; decide, q dx hd ne⟩⟩⟩⟩
theorem bP27 (F : FI27 K f fd) : KBn K fd ["self", "part", "key"] 3 [] (fun us _ => us) (fun us _ => us) := F.kbn 3 (fun us _ => us) (fun r _ => r) fun _ _ _ _ _ _ us ws hl hw => match us, hl, ws, hw with | [_, _, _], _, [], _ => rfl
theorem bK27 (F : FI27 K f fd) : KBn K fd ["self", "part", "key"] 1 ["key", "part"] (fun us ws => us ++ ws.reverse) (fun us ws => us ++ ws.reverse) := F.kbn 1 (fun us ws => us ++ ws.reverse) (fun r z => r.append (vals_rev z)) fun _ _ _ _ _ _ us ws hl hw => match us, hl, ws, hw with | [_], _, [_, _], _ => rfl
abbrev sI28 : Stmt := inClass (top 6) 0
abbrev FI28 (K : PySem.W.Frag) (f : Addr) (fd : FuncData) : Prop := FunD K "__init__" "InvalidWrite.__init__" (defArgs sI28) (defBody sI28) (defScope sI28) [] [] f fd
theorem scI28 : FnScope ["self", "part"] ["self", "part"] (defScope sI28) := ⟨rfl, rfl, rfl, by decide +kernel, rfl, by decide +kernel, by decide +kernel⟩
theorem okI28 (F : FI28 K f fd) : FnOk P w K mg base CX0 1 f fd ["self", "part"] (spI1 K "part") := by
  refine F.ok scI28 (fun vs H Q E h => ?_) (fun cdv A outer s H vs Q E hr h => ?_)
  · obtain ⟨a, C, y, rfl, _⟩ := h
    rfl
  · obtain ⟨a, C, y, rfl, T, no, e, q⟩ := h
    exact ⟨_, PSs.nox (pss_one (ps_xst (pv 0) (pv 1))), _, rfl, _, rfl, a, C, rfl, T, no, .inl ⟨e, q⟩⟩
theorem bP28 (F : FI28 K f fd) : KBn K fd ["self", "part"] 2 [] (fun us _ => us) (fun us _ => us) := F.kbn 2 (fun us _ => us) (fun r _ => r) fun _ _ _ _ _ _ us ws hl hw => match us, hl, ws, hw with | [_, _], _, [], _ => rfl
theorem bK28 (F : FI28 K f fd) : KBn K fd ["self", "part"] 1 ["part"] (fun us ws => us ++ ws) (fun us ws => us ++ ws) := F.kbn 1 (fun us ws => us ++ ws) (fun r z => r.append z) fun _ _ _ _ _ _ us ws hl hw => match us, hl, ws, hw with | [_], _, [_], _ => rfl
abbrev sI29 : Stmt := inClass (top 23) 0
abbrev FI29 (K : PySem.W.Frag) (f : Addr) (fd : FuncData) : Prop := FunD K "__init__" "InvalidText.__init__" (defArgs sI29) (defBody sI29) (defScope sI29) [] [] f fd
theorem scI29 : FnScope ["self", "line"] ["self", "line"] (defScope sI29) := ⟨rfl, rfl, rfl, by decide +kernel, rfl, by decide +kernel, by decide +kernel⟩
theorem okI29 (F : FI29 K f fd) : FnOk P w K mg base CX0 1 f fd ["self", "line"] (spI1 K "line") := by
  refine F.ok scI29 (fun vs H Q E h => ?_) (fun cdv A outer s H vs Q E hr h => ?_)
  · obtain ⟨a, C, y, rfl, _⟩ := h
    rfl
  · obtain ⟨a, C, y, rfl, T, no, e, q⟩ := h
    exact ⟨_, PSs.nox (pss_one (ps_xst (pv 0) (pv 1))), _, rfl, _, rfl, a, C, rfl, T, no, .inl ⟨e, q⟩⟩
theorem bP29 (F : FI29 K f fd) : KBn K fd ["self", "line"] 2 [] (fun us _ => us) (fun us _ => us) := F.kbn 2 (fun us _ => us) (fun r _ => r) fun _ _ _ _ _ _ us ws hl hw => match us, hl, ws, hw with | [_, _], _, [], _ => rfl
theorem bK29 (F : FI29 K f fd) : KBn K fd ["self", "line"] 1 ["line"] (fun us ws => us ++ ws) (fun us ws => us ++ ws) := F.kbn 1 (fun us ws => us ++ ws) (fun r z => r.append z) fun _ _ _ _ _ _ us ws hl hw => match us, hl, ws, hw with | [_], _, [_], _ => rfl
abbrev sI30 : Stmt := inClass (top 27) 0
abbrev FI30 (K : PySem.W.Frag) (f : Addr) (fd : FuncData) : Prop := FunD K "__init__" "NothingToUndo.__init__" (defArgs sI30) (defBody sI30) (defScope sI30) [] [] f fd
theorem scI30 : FnScope ["self"] ["self"] (defScope sI30) := ⟨rfl, rfl, rfl, by decide +kernel, rfl, by decide +kernel, by decide +kernel⟩
theorem okI30 (F : FI30 K f fd) : FnOk P w K mg base CX0 1 f fd ["self"] (spI0 K) := by
  refine F.ok scI30 (fun vs H Q E h => ?_) (fun cdv A outer s H vs Q E hr h => ?_)
  · obtain ⟨a, rfl, _⟩ := h
    rfl
  · obtain ⟨a, rfl, q⟩ := h
    exact ⟨_, PSs.nox (pss_one ps_pass), q⟩
theorem bP30 (F : FI30 K f fd) : KBn K fd ["self"] 1 [] (fun us _ => us) (fun us _ => us) := F.kbn 1 (fun us _ => us) (fun r _ => r) fun _ _ _ _ _ _ us ws hl hw => match us, hl, ws, hw with | [_], _, [], _ => rfl
abbrev sI31 : Stmt := inClass (top 33) 0
abbrev FI31 (K : PySem.W.Frag) (f : Addr) (fd : FuncData) : Prop := FunD K "__init__" "Unlike.__init__" (defArgs sI31) (defBody sI31) (defScope sI31) [] [] f fd
theorem scI31 : FnScope ["self"] ["self"] (defScope sI31) := ⟨rfl, rfl, rfl, by decide +kernel, rfl, by decide +kernel, by decide +kernel⟩
theorem okI31 (F : FI31 K f fd) : FnOk P w K mg base CX0 1 f fd ["self"] (spI0 K) := by
  refine F.ok scI31 (fun vs H Q E h => ?_) (fun cdv A outer s H vs Q E hr h => ?_)
  · obtain ⟨a, rfl, _⟩ := h
    rfl
  · obtain ⟨a, rfl, q⟩ := h
    exact ⟨_, PSs.nox (pss_one ps_pass), q⟩
theorem bP31 (F : FI31 K f fd) : KBn K fd ["self"] 1 [] (fun us _ => us) (fun us _ => us) := F.kbn 1 (fun us _ => us) (fun r _ => r) fun _ _ _ _ _ _ us ws hl hw => match us, hl, ws, hw with | [_], _, [], _ => rfl
abbrev sI32 : Stmt := inClass (top 34) 0
abbrev FI32 (K : PySem.W.Frag) (f : Addr) (fd : FuncData) : Prop := FunD K "__init__" "TooMany.__init__" (defArgs sI32) (defBody sI32) (defScope sI32) [] [] f fd
theorem scI32 : FnScope ["self", "what", "limit"] ["self", "what", "limit"] (defScope sI32) := ⟨rfl, rfl, rfl, by decide +kernel, rfl, by decide +kernel, by decide +kernel⟩
theorem okI32 (F : FI32 K f fd) : FnOk P w K mg base CX0 1 f fd ["self", "what", "limit"] (spI2 K "what" "limit") := by
  refine F.ok scI32 (fun vs H Q E h => ?_) (fun cdv A outer s H vs Q E hr h => ?_)
  · obtain ⟨a, C, y, z, rfl, _⟩ := h
    rfl
  · obtain ⟨a, C, y, z, rfl, T, no, no2, e, q⟩ := h
    exact ⟨_, PSs.nox (pss_cons (ps_xst (pv 0) (pv 1)) (pss_one (ps_xst (pv 0) (pv 2)))), _, rfl, _, rfl, a, C, rfl, T, no, .inl ⟨e, fun dx hd ne => ⟨_, rfl, _, rfl, a, C, rfl, T, no2, .inr ⟨dx, _, upd_same, (by rw [upd_ne ne, upd_same]), by show 1 ≤ 900; decide, q dx hd ne⟩⟩⟩⟩
theorem bP32 (F : FI32 K f fd) : KBn K fd ["self", "what", "limit"] 3 [] (fun us _ => us) (fun us _ => us) := F.kbn 3 (fun us _ => us) (fun r _ => r) fun _ _ _ _ _ _ us ws hl hw => match us, hl, ws, hw with | [_, _, _], _, [], _ => rfl
theorem bK32 (F : FI32 K f fd) : KBn K fd ["self", "what", "limit"] 1 ["limit", "what"] (fun us ws => us ++ ws.reverse) (fun us ws => us ++ ws.reverse) := F.kbn 1 (fun us ws => us ++ ws.reverse) (fun r z => r.append (vals_rev z)) fun _ _ _ _ _ _ us ws hl hw => match us, hl, ws, hw with | [_], _, [_, _], _ => rfl
end
end K19

end PK19c
section PK19d
set_option maxHeartbeats 4000000
namespace K19
open PySem L2
/-! ### lists of made errors -/
def tAll : List TE → TA
  | [] => tNil
  | t :: r => tCons t (tAll r)
abbrev Spec := Addr × List (Str × V)
def XL (H : Hp) : List V → List Spec → Prop := Paired fun v p => ∃ a, v = .ref a ∧ IsX H p.1 p.2 a
theorem XL.same {H H' : Hp} (s : Same H H') {vs : List V} {ps : List Spec} (h : XL H vs ps) : XL H' vs ps := Paired.mapP h fun v p ⟨a, e, x⟩ => ⟨a, e, x.same s⟩
theorem XL.append {H : Hp} : ∀ {vs us : List V} {ps qs : List Spec}, XL H vs ps → XL H us qs → XL H (vs ++ us) (ps ++ qs)
  | _, _, _, _, .nil, h => h
  | _, _, _, _, .cons a t, h => .cons a (XL.append t h)
theorem XL.len {H : Hp} {vs : List V} {ps : List Spec} (h : XL H vs ps) : vs.length = ps.length := Paired.length h
theorem args_x {σ : St} {H : Hp} : ∀ {tes : List TE} {ps : List Spec}, Paired (fun te p => Mkx te σ H p.1 p.2) tes ps → ∀ H1, Same H H1 → ∀ Q : List V → Hp → Prop, (∀ vs H2, Same H1 H2 → XL H2 vs ps → Q vs H2) → tAll tes σ H1 Q
  | _, _, .nil, H1, _, Q, q => q [] H1 (Same.refl H1) .nil
  | _, _, .cons h t, H1, s, Q, q => h H1 s _ fun a H2 s2 x => args_x t H2 (s.trans s2) _ fun vs H3 s3 xl => q _ H3 (s2.trans s3) (.cons ⟨a, rfl, x.same s3⟩ xl)
theorem args_p {σ : St} {H : Hp} : ∀ {tes : List TE} {vs : List V}, Paired (fun te v => ∀ Q : VK, Q v H → te σ H Q) tes vs → ∀ Q : List V → Hp → Prop, Q vs H → tAll tes σ H Q
  | _, _, .nil, Q, q => q
  | _, _, .cons h t, Q, q => h _ (args_p t _ q)
theorem small {n : Nat} (h : n ≤ 1000) : n ≤ sizeLine := Nat.le_trans h (by decide)
/-- l = [e, ..] -/
theorem sq_first {u : TS} {D : Ends} {σ : St} {σ2 : Addr → St} {H : Hp} {i : Nat} {tes : List TE} {ps : List Spec} (hs : ∀ l, σ.set i (some (.ref l)) = σ2 l) (h : Paired (fun te p => Mkx te σ H p.1 p.2) tes ps) (hl : ps.length ≤ 1000) (q : ∀ l vs H2, Same H H2 → H2 l = some (.lst vs) → XL H2 vs ps → u D (σ2 l) H2) :
    tSeq (tAsg (tLst (tAll tes)) (gName i)) u D σ H := args_x h H (Same.refl H) _ fun vs H2 s xl => ⟨small (by rw [xl.len]; exact hl), fun l hl' => by
    show u D (σ.set i (some (.ref l))) _
    rw [hs]
    exact q l vs _ (s.trans (same_upd hl')) upd_same (xl.same (same_upd hl'))⟩
/-- l + [e, ..] -/
theorem cat_x {σ : St} {H : Hp} {Q : VK} {i : Nat} {tes : List TE} {ps qs : List Spec} {l : Addr} {vs : List V} (e : σ[i]? = some (some (.ref l))) (hl : H l = some (.lst vs)) (xl : XL H vs ps) (h : Paired (fun te p => Mkx te σ H p.1 p.2) tes qs) (n : ps.length + qs.length ≤ 1000)
    (q : ∀ l2 us H2, Same H H2 → H2 l2 = some (.lst us) → XL H2 us (ps ++ qs) → Q (.ref l2) H2) : tOp rCat (tVar i) (tLst (tAll tes)) σ H Q := by
  refine ⟨_, e, args_x h H (Same.refl H) _ fun us H2 s ul => ⟨small (by rw [ul.len]; omega), fun m hm => ?_⟩⟩
  have s2 : Same H2 (upd H2 m (.lst us)) := same_upd hm
  refine ⟨l, m, vs, us, rfl, rfl, s2 _ _ (s _ _ hl), upd_same, small (by rw [xl.len, ul.len]; exact n), fun p hp => ?_⟩
  have s3 := same_upd (o := HO.lst (vs ++ us)) hp
  exact q p _ _ ((s.trans s2).trans s3) upd_same ((xl.same ((s.trans s2).trans s3)).append (ul.same (s2.trans s3)))
theorem sq_more {u : TS} {D : Ends} {σ : St} {σ2 : Addr → St} {H : Hp} {i : Nat} {tes : List TE} {ps qs : List Spec} {l : Addr} {vs : List V} (hs : ∀ l, σ.set i (some (.ref l)) = σ2 l) (e : σ[i]? = some (some (.ref l))) (hl : H l = some (.lst vs)) (xl : XL H vs ps) (h : Paired (fun te p => Mkx te σ H p.1 p.2) tes qs) (n : ps.length + qs.length ≤ 1000)
    (q : ∀ l2 us H2, Same H H2 → H2 l2 = some (.lst us) → XL H2 us (ps ++ qs) → u D (σ2 l2) H2) : tSeq (tAsg (tOp rCat (tVar i) (tLst (tAll tes))) (gName i)) u D σ H := cat_x e hl xl h n fun l2 us H2 s a x => by
    show u D (σ.set i (some (.ref l2))) _
    rw [hs]
    exact q l2 us H2 s a x
/-- lists of values that are there -/
theorem sp_first {u : TS} {D : Ends} {σ : St} {σ2 : Addr → St} {H : Hp} {i : Nat} {tes : List TE} {vs : List V} (hs : ∀ l, σ.set i (some (.ref l)) = σ2 l) (h : Paired (fun te v => ∀ Q : VK, Q v H → te σ H Q) tes vs) (hl : vs.length ≤ 1000) (q : ∀ l H2, Same H H2 → H2 l = some (.lst vs) → u D (σ2 l) H2) :
    tSeq (tAsg (tLst (tAll tes)) (gName i)) u D σ H := args_p h _ ⟨small hl, fun l hl' => by
    show u D (σ.set i (some (.ref l))) _
    rw [hs]
    exact q l _ (same_upd hl') upd_same⟩
theorem sp_more {u : TS} {D : Ends} {σ : St} {σ2 : Addr → St} {H : Hp} {i : Nat} {tes : List TE} {us vs : List V} {l : Addr} (hs : ∀ l, σ.set i (some (.ref l)) = σ2 l) (e : σ[i]? = some (some (.ref l))) (hl : H l = some (.lst us)) (h : Paired (fun te v => ∀ Q : VK, Q v H → te σ H Q) tes vs) (n : us.length + vs.length ≤ 1000)
    (q : ∀ l2 ws H2, Same H H2 → H2 l2 = some (.lst ws) → ws = us ++ vs → ws.length = us.length + vs.length → u D (σ2 l2) H2) : tSeq (tAsg (tOp rCat (tVar i) (tLst (tAll tes))) (gName i)) u D σ H := by
  refine ⟨_, e, args_p h _ ⟨small (by omega), fun m hm => ?_⟩⟩
  have s2 := same_upd (o := HO.lst vs) hm
  refine ⟨l, m, us, vs, rfl, rfl, s2 _ _ hl, upd_same, small n, fun p hp => by
    show u D (σ.set i (some (.ref p))) _
    rw [hs]
    exact q p _ _ (s2.trans (same_upd hp)) upd_same rfl List.length_append⟩
structure TX (K : PySem.W.Frag) (mg : Str → Option Value) : Prop where
  cl : ∀ k, k < 33 → Cl K mg k
  isi : mg "isinstance" = none
  i0 : ∃ fd, FI0 K (fA K 0) fd
  i1 : ∃ fd, FI1 K (fA K 1) fd
  i2 : ∃ fd, FI2 K (fA K 2) fd
  i3 : ∃ fd, FI3 K (fA K 3) fd
  i4 : ∃ fd, FI4 K (fA K 4) fd
  i5 : ∃ fd, FI5 K (fA K 5) fd
  i6 : ∃ fd, FI6 K (fA K 6) fd
  i7 : ∃ fd, FI7 K (fA K 7) fd
  i8 : ∃ fd, FI8 K (fA K 8) fd
  i9 : ∃ fd, FI9 K (fA K 9) fd
  i10 : ∃ fd, FI10 K (fA K 10) fd
  i11 : ∃ fd, FI11 K (fA K 11) fd
  i12 : ∃ fd, FI12 K (fA K 12) fd
  i13 : ∃ fd, FI13 K (fA K 13) fd
  i14 : ∃ fd, FI14 K (fA K 14) fd
  i15 : ∃ fd, FI15 K (fA K 15) fd
  i16 : ∃ fd, FI16 K (fA K 16) fd
  i17 : ∃ fd, FI17 K (fA K 17) fd
  i18 : ∃ fd, FI18 K (fA K 18) fd
  i19 : ∃ fd, FI19 K (fA K 19) fd
  i20 : ∃ fd, FI20 K (fA K 20) fd
  i21 : ∃ fd, FI21 K (fA K 21) fd
  i22 : ∃ fd, FI22 K (fA K 22) fd
  i23 : ∃ fd, FI23 K (fA K 23) fd
  i24 : ∃ fd, FI24 K (fA K 24) fd
  i25 : ∃ fd, FI25 K (fA K 25) fd
  i26 : ∃ fd, FI26 K (fA K 26) fd
  i27 : ∃ fd, FI27 K (fA K 27) fd
  i28 : ∃ fd, FI28 K (fA K 28) fd
  i29 : ∃ fd, FI29 K (fA K 29) fd
  i30 : ∃ fd, FI30 K (fA K 30) fd
  i31 : ∃ fd, FI31 K (fA K 31) fd
  i32 : ∃ fd, FI32 K (fA K 32) fd
def spMk (n : Nat) (ps : List V → List Spec) : Sp := fun vs H Q _ => vs.length = n ∧ ∀ l us H', Same H H' → H' l = some (.lst us) → XL H' us (ps vs) → Q (.ref l) H'
section
variable {P : Program} {w : World} {K : PySem.W.Frag} {mg : Str → Option Value} {base : Heap} {f : Addr} {fd : FuncData}
abbrev s_byvalue : Stmt := top 40
def ps_byvalue (K : PySem.W.Frag) : List V → List Spec
  | [v0] => ((((((((([(cA K 0, [("value", v0)]), (cA K 0, [("value", v0)]), (cA K 1, [("value", v0)]), (cA K 1, [("value", v0)])] : List Spec) ++ ([(cA K 2, [("value", v0)]), (cA K 2, [("value", v0)])] : List Spec)) ++ ([(cA K 3, [("value", v0)]), (cA K 3, [("value", v0)]), (cA K 4, [("value", v0)]), (cA K 4, [("value", v0)])] : List Spec)) ++ ([(cA K 5, [("value", v0)]), (cA K 5, [("value", v0)])] : List Spec)) ++ ([(cA K 6, [("value", v0)]), (cA K 6, [("value", v0)]), (cA K 7, [("value", v0)]), (cA K 7, [("value", v0)])] : List Spec)) ++ ([(cA K 8, [("value", v0)]), (cA K 8, [("value", v0)])] : List Spec)) ++ ([(cA K 9, [("value", v0)]), (cA K 9, [("value", v0)]), (cA K 10, [("value", v0)]), (cA K 10, [("value", v0)])] : List Spec)) ++ ([(cA K 11, [("value", v0)]), (cA K 11, [("value", v0)])] : List Spec)) ++ ([(cA K 12, [("value", v0)]), (cA K 12, [("value", v0)]), (cA K 13, [("value", v0)]), (cA K 13, [("value", v0)])] : List Spec))
  | _ => []
theorem sc_byvalue : FnScope ["_law_one", "_law_made"] ["_law_one"] (defScope s_byvalue) := ⟨rfl, rfl, rfl, by decide +kernel, rfl, by decide +kernel, by decide +kernel⟩
theorem ok_byvalue (F : FD K "_law_by_value" s_byvalue f fd) (T : TX K mg) : FnOk P w K mg base CX0 3 f fd ["_law_one"] (spMk 1 (ps_byvalue K)) := by
  refine F.ok sc_byvalue (fun vs H Q E h => h.1) (fun cdv A outer s H vs Q E hr h => ?_)
  obtain ⟨hl, q⟩ := h
  match vs, hl, q with
  | [v0], _, q =>
    have hr2 : Room 2 _ := hr.mono (by decide)
    obtain ⟨fd0, F0⟩ := T.i0
    obtain ⟨fd1, F1⟩ := T.i1
    obtain ⟨fd2, F2⟩ := T.i2
    obtain ⟨fd3, F3⟩ := T.i3
    obtain ⟨fd4, F4⟩ := T.i4
    obtain ⟨fd5, F5⟩ := T.i5
    obtain ⟨fd6, F6⟩ := T.i6
    obtain ⟨fd7, F7⟩ := T.i7
    obtain ⟨fd8, F8⟩ := T.i8
    obtain ⟨fd9, F9⟩ := T.i9
    obtain ⟨fd10, F10⟩ := T.i10
    obtain ⟨fd11, F11⟩ := T.i11
    obtain ⟨fd12, F12⟩ := T.i12
    obtain ⟨fd13, F13⟩ := T.i13
    refine ⟨_, PSs.nox (pss_cons (ps_set (i := 1) sc_byvalue.nd rfl (Or.inl rfl) (pe_lst (pa_cons (pe_xmk (T.cl 0 (by decide)).x (T.cl 0 (by decide)).i (T.cl 0 (by decide)).t (okI0 F0) hr2 (bP0 F0) pass0 (by decide) rfl (T.cl 0 (by decide)).g (pa_cons (pv 0) pa_nil)) (pa_cons (pe_xmkK (T.cl 0 (by decide)).x (T.cl 0 (by decide)).i (T.cl 0 (by decide)).t (okI0 F0) hr2 (bK0 F0) pass0 rfl (T.cl 0 (by decide)).g (pk_cons (pv 0) pk_nil)) (pa_cons (pe_xmk (T.cl 1 (by decide)).x (T.cl 1 (by decide)).i (T.cl 1 (by decide)).t (okI1 F1) hr2 (bP1 F1) pass0 (by decide) rfl (T.cl 1 (by decide)).g (pa_cons (pv 0) pa_nil)) (pa_cons (pe_xmkK (T.cl 1 (by decide)).x (T.cl 1 (by decide)).i (T.cl 1 (by decide)).t (okI1 F1) hr2 (bK1 F1) pass0 rfl (T.cl 1 (by decide)).g (pk_cons (pv 0) pk_nil)) pa_nil))))))
      (pss_cons (ps_set (i := 1) sc_byvalue.nd rfl (Or.inl rfl) (pe_op op_cat (pv 1) (pe_lst (pa_cons (pe_xmk (T.cl 2 (by decide)).x (T.cl 2 (by decide)).i (T.cl 2 (by decide)).t (okI2 F2) hr2 (bP2 F2) pass0 (by decide) rfl (T.cl 2 (by decide)).g (pa_cons (pv 0) pa_nil)) (pa_cons (pe_xmkK (T.cl 2 (by decide)).x (T.cl 2 (by decide)).i (T.cl 2 (by decide)).t (okI2 F2) hr2 (bK2 F2) pass0 rfl (T.cl 2 (by decide)).g (pk_cons (pv 0) pk_nil)) pa_nil)))))
      (pss_cons (ps_set (i := 1) sc_byvalue.nd rfl (Or.inl rfl) (pe_op op_cat (pv 1) (pe_lst (pa_cons (pe_xmk (T.cl 3 (by decide)).x (T.cl 3 (by decide)).i (T.cl 3 (by decide)).t (okI3 F3) hr2 (bP3 F3) pass0 (by decide) rfl (T.cl 3 (by decide)).g (pa_cons (pv 0) pa_nil)) (pa_cons (pe_xmkK (T.cl 3 (by decide)).x (T.cl 3 (by decide)).i (T.cl 3 (by decide)).t (okI3 F3) hr2 (bK3 F3) pass0 rfl (T.cl 3 (by decide)).g (pk_cons (pv 0) pk_nil)) (pa_cons (pe_xmk (T.cl 4 (by decide)).x (T.cl 4 (by decide)).i (T.cl 4 (by decide)).t (okI4 F4) hr2 (bP4 F4) pass0 (by decide) rfl (T.cl 4 (by decide)).g (pa_cons (pv 0) pa_nil)) (pa_cons (pe_xmkK (T.cl 4 (by decide)).x (T.cl 4 (by decide)).i (T.cl 4 (by decide)).t (okI4 F4) hr2 (bK4 F4) pass0 rfl (T.cl 4 (by decide)).g (pk_cons (pv 0) pk_nil)) pa_nil)))))))
      (pss_cons (ps_set (i := 1) sc_byvalue.nd rfl (Or.inl rfl) (pe_op op_cat (pv 1) (pe_lst (pa_cons (pe_xmk (T.cl 5 (by decide)).x (T.cl 5 (by decide)).i (T.cl 5 (by decide)).t (okI5 F5) hr2 (bP5 F5) pass0 (by decide) rfl (T.cl 5 (by decide)).g (pa_cons (pv 0) pa_nil)) (pa_cons (pe_xmkK (T.cl 5 (by decide)).x (T.cl 5 (by decide)).i (T.cl 5 (by decide)).t (okI5 F5) hr2 (bK5 F5) pass0 rfl (T.cl 5 (by decide)).g (pk_cons (pv 0) pk_nil)) pa_nil)))))
      (pss_cons (ps_set (i := 1) sc_byvalue.nd rfl (Or.inl rfl) (pe_op op_cat (pv 1) (pe_lst (pa_cons (pe_xmk (T.cl 6 (by decide)).x (T.cl 6 (by decide)).i (T.cl 6 (by decide)).t (okI6 F6) hr2 (bP6 F6) pass0 (by decide) rfl (T.cl 6 (by decide)).g (pa_cons (pv 0) pa_nil)) (pa_cons (pe_xmkK (T.cl 6 (by decide)).x (T.cl 6 (by decide)).i (T.cl 6 (by decide)).t (okI6 F6) hr2 (bK6 F6) pass0 rfl (T.cl 6 (by decide)).g (pk_cons (pv 0) pk_nil)) (pa_cons (pe_xmk (T.cl 7 (by decide)).x (T.cl 7 (by decide)).i (T.cl 7 (by decide)).t (okI7 F7) hr2 (bP7 F7) pass0 (by decide) rfl (T.cl 7 (by decide)).g (pa_cons (pv 0) pa_nil)) (pa_cons (pe_xmkK (T.cl 7 (by decide)).x (T.cl 7 (by decide)).i (T.cl 7 (by decide)).t (okI7 F7) hr2 (bK7 F7) pass0 rfl (T.cl 7 (by decide)).g (pk_cons (pv 0) pk_nil)) pa_nil)))))))
      (pss_cons (ps_set (i := 1) sc_byvalue.nd rfl (Or.inl rfl) (pe_op op_cat (pv 1) (pe_lst (pa_cons (pe_xmk (T.cl 8 (by decide)).x (T.cl 8 (by decide)).i (T.cl 8 (by decide)).t (okI8 F8) hr2 (bP8 F8) pass0 (by decide) rfl (T.cl 8 (by decide)).g (pa_cons (pv 0) pa_nil)) (pa_cons (pe_xmkK (T.cl 8 (by decide)).x (T.cl 8 (by decide)).i (T.cl 8 (by decide)).t (okI8 F8) hr2 (bK8 F8) pass0 rfl (T.cl 8 (by decide)).g (pk_cons (pv 0) pk_nil)) pa_nil)))))
      (pss_cons (ps_set (i := 1) sc_byvalue.nd rfl (Or.inl rfl) (pe_op op_cat (pv 1) (pe_lst (pa_cons (pe_xmk (T.cl 9 (by decide)).x (T.cl 9 (by decide)).i (T.cl 9 (by decide)).t (okI9 F9) hr2 (bP9 F9) pass0 (by decide) rfl (T.cl 9 (by decide)).g (pa_cons (pv 0) pa_nil)) (pa_cons (pe_xmkK (T.cl 9 (by decide)).x (T.cl 9 (by decide)).i (T.cl 9 (by decide)).t (okI9 F9) hr2 (bK9 F9) pass0 rfl (T.cl 9 (by decide)).g (pk_cons (pv 0) pk_nil)) (pa_cons (pe_xmk (T.cl 10 (by decide)).x (T.cl 10 (by decide)).i (T.cl 10 (by decide)).t (okI10 F10) hr2 (bP10 F10) pass0 (by decide) rfl (T.cl 10 (by decide)).g (pa_cons (pv 0) pa_nil)) (pa_cons (pe_xmkK (T.cl 10 (by decide)).x (T.cl 10 (by decide)).i (T.cl 10 (by decide)).t (okI10 F10) hr2 (bK10 F10) pass0 rfl (T.cl 10 (by decide)).g (pk_cons (pv 0) pk_nil)) pa_nil)))))))
      (pss_cons (ps_set (i := 1) sc_byvalue.nd rfl (Or.inl rfl) (pe_op op_cat (pv 1) (pe_lst (pa_cons (pe_xmk (T.cl 11 (by decide)).x (T.cl 11 (by decide)).i (T.cl 11 (by decide)).t (okI11 F11) hr2 (bP11 F11) pass0 (by decide) rfl (T.cl 11 (by decide)).g (pa_cons (pv 0) pa_nil)) (pa_cons (pe_xmkK (T.cl 11 (by decide)).x (T.cl 11 (by decide)).i (T.cl 11 (by decide)).t (okI11 F11) hr2 (bK11 F11) pass0 rfl (T.cl 11 (by decide)).g (pk_cons (pv 0) pk_nil)) pa_nil)))))
      (pss_cons (ps_set (i := 1) sc_byvalue.nd rfl (Or.inl rfl) (pe_op op_cat (pv 1) (pe_lst (pa_cons (pe_xmk (T.cl 12 (by decide)).x (T.cl 12 (by decide)).i (T.cl 12 (by decide)).t (okI12 F12) hr2 (bP12 F12) pass0 (by decide) rfl (T.cl 12 (by decide)).g (pa_cons (pv 0) pa_nil)) (pa_cons (pe_xmkK (T.cl 12 (by decide)).x (T.cl 12 (by decide)).i (T.cl 12 (by decide)).t (okI12 F12) hr2 (bK12 F12) pass0 rfl (T.cl 12 (by decide)).g (pk_cons (pv 0) pk_nil)) (pa_cons (pe_xmk (T.cl 13 (by decide)).x (T.cl 13 (by decide)).i (T.cl 13 (by decide)).t (okI13 F13) hr2 (bP13 F13) pass0 (by decide) rfl (T.cl 13 (by decide)).g (pa_cons (pv 0) pa_nil)) (pa_cons (pe_xmkK (T.cl 13 (by decide)).x (T.cl 13 (by decide)).i (T.cl 13 (by decide)).t (okI13 F13) hr2 (bK13 F13) pass0 rfl (T.cl 13 (by decide)).g (pk_cons (pv 0) pk_nil)) pa_nil)))))))
      (pss_one (ps_ret (pv 1)))))))))))), ?_⟩
    refine sq_first (σ2 := fun l => [some v0, some (.ref l)]) (tes := [_, _, _, _]) (ps := [(cA K 0, [("value", v0)]), (cA K 0, [("value", v0)]), (cA K 1, [("value", v0)]), (cA K 1, [("value", v0)])]) (fun _ => rfl) (.cons (mkx1p (T.cl 0 (by decide)).x ((T.cl 0 (by decide)).no "value" (by decide +kernel)) rfl) (.cons (mkx1k (T.cl 0 (by decide)).x ((T.cl 0 (by decide)).no "value" (by decide +kernel)) rfl) (.cons (mkx1p (T.cl 1 (by decide)).x ((T.cl 1 (by decide)).no "value" (by decide +kernel)) rfl) (.cons (mkx1k (T.cl 1 (by decide)).x ((T.cl 1 (by decide)).no "value" (by decide +kernel)) rfl) .nil)))) (by simp) fun l0 us0 H0 s0 hl0 x0 => ?_
    refine sq_more (σ2 := fun l => [some v0, some (.ref l)]) (tes := [_, _]) (qs := [(cA K 2, [("value", v0)]), (cA K 2, [("value", v0)])]) (l := l0) (fun _ => rfl) rfl hl0 x0 (.cons (mkx1p (T.cl 2 (by decide)).x ((T.cl 2 (by decide)).no "value" (by decide +kernel)) rfl) (.cons (mkx1k (T.cl 2 (by decide)).x ((T.cl 2 (by decide)).no "value" (by decide +kernel)) rfl) .nil)) (by simp) fun l1 us1 H1 s1 hl1 x1 => ?_
    refine sq_more (σ2 := fun l => [some v0, some (.ref l)]) (tes := [_, _, _, _]) (qs := [(cA K 3, [("value", v0)]), (cA K 3, [("value", v0)]), (cA K 4, [("value", v0)]), (cA K 4, [("value", v0)])]) (l := l1) (fun _ => rfl) rfl hl1 x1 (.cons (mkx1p (T.cl 3 (by decide)).x ((T.cl 3 (by decide)).no "value" (by decide +kernel)) rfl) (.cons (mkx1k (T.cl 3 (by decide)).x ((T.cl 3 (by decide)).no "value" (by decide +kernel)) rfl) (.cons (mkx1p (T.cl 4 (by decide)).x ((T.cl 4 (by decide)).no "value" (by decide +kernel)) rfl) (.cons (mkx1k (T.cl 4 (by decide)).x ((T.cl 4 (by decide)).no "value" (by decide +kernel)) rfl) .nil)))) (by simp) fun l2 us2 H2 s2 hl2 x2 => ?_
    refine sq_more (σ2 := fun l => [some v0, some (.ref l)]) (tes := [_, _]) (qs := [(cA K 5, [("value", v0)]), (cA K 5, [("value", v0)])]) (l := l2) (fun _ => rfl) rfl hl2 x2 (.cons (mkx1p (T.cl 5 (by decide)).x ((T.cl 5 (by decide)).no "value" (by decide +kernel)) rfl) (.cons (mkx1k (T.cl 5 (by decide)).x ((T.cl 5 (by decide)).no "value" (by decide +kernel)) rfl) .nil)) (by simp) fun l3 us3 H3 s3 hl3 x3 => ?_
    refine sq_more (σ2 := fun l => [some v0, some (.ref l)]) (tes := [_, _, _, _]) (qs := [(cA K 6, [("value", v0)]), (cA K 6, [("value", v0)]), (cA K 7, [("value", v0)]), (cA K 7, [("value", v0)])]) (l := l3) (fun _ => rfl) rfl hl3 x3 (.cons (mkx1p (T.cl 6 (by decide)).x ((T.cl 6 (by decide)).no "value" (by decide +kernel)) rfl) (.cons (mkx1k (T.cl 6 (by decide)).x ((T.cl 6 (by decide)).no "value" (by decide +kernel)) rfl) (.cons (mkx1p (T.cl 7 (by decide)).x ((T.cl 7 (by decide)).no "value" (by decide +kernel)) rfl) (.cons (mkx1k (T.cl 7 (by decide)).x ((T.cl 7 (by decide)).no "value" (by decide +kernel)) rfl) .nil)))) (by simp) fun l4 us4 H4 s4 hl4 x4 => ?_
    refine sq_more (σ2 := fun l => [some v0, some (.ref l)]) (tes := [_, _]) (qs := [(cA K 8, [("value", v0)]), (cA K 8, [("value", v0)])]) (l := l4) (fun _ => rfl) rfl hl4 x4 (.cons (mkx1p (T.cl 8 (by decide)).x ((T.cl 8 (by decide)).no "value" (by decide +kernel)) rfl) (.cons (mkx1k (T.cl 8 (by decide)).x ((T.cl 8 (by decide)).no "value" (by decide +kernel)) rfl) .nil)) (by simp) fun l5 us5 H5 s5 hl5 x5 => ?_
    refine sq_more (σ2 := fun l => [some v0, some (.ref l)]) (tes := [_, _, _, _]) (qs := [(cA K 9, [("value", v0)]), (cA K 9, [("value", v0)]), (cA K 10, [("value", v0)]), (cA K 10, [("value", v0)])]) (l := l5) (fun _ => rfl) rfl hl5 x5 (.cons (mkx1p (T.cl 9 (by decide)).x ((T.cl 9 (by decide)).no "value" (by decide +kernel)) rfl) (.cons (mkx1k (T.cl 9 (by decide)).x ((T.cl 9 (by decide)).no "value" (by decide +kernel)) rfl) (.cons (mkx1p (T.cl 10 (by decide)).x ((T.cl 10 (by decide)).no "value" (by decide +kernel)) rfl) (.cons (mkx1k (T.cl 10 (by decide)).x ((T.cl 10 (by decide)).no "value" (by decide +kernel)) rfl) .nil)))) (by simp) fun l6 us6 H6 s6 hl6 x6 => ?_
    refine sq_more (σ2 := fun l => [some v0, some (.ref l)]) (tes := [_, _]) (qs := [(cA K 11, [("value", v0)]), (cA K 11, [("value", v0)])]) (l := l6) (fun _ => rfl) rfl hl6 x6 (.cons (mkx1p (T.cl 11 (by decide)).x ((T.cl 11 (by decide)).no "value" (by decide +kernel)) rfl) (.cons (mkx1k (T.cl 11 (by decide)).x ((T.cl 11 (by decide)).no "value" (by decide +kernel)) rfl) .nil)) (by simp) fun l7 us7 H7 s7 hl7 x7 => ?_
    refine sq_more (σ2 := fun l => [some v0, some (.ref l)]) (tes := [_, _, _, _]) (qs := [(cA K 12, [("value", v0)]), (cA K 12, [("value", v0)]), (cA K 13, [("value", v0)]), (cA K 13, [("value", v0)])]) (l := l7) (fun _ => rfl) rfl hl7 x7 (.cons (mkx1p (T.cl 12 (by decide)).x ((T.cl 12 (by decide)).no "value" (by decide +kernel)) rfl) (.cons (mkx1k (T.cl 12 (by decide)).x ((T.cl 12 (by decide)).no "value" (by decide +kernel)) rfl) (.cons (mkx1p (T.cl 13 (by decide)).x ((T.cl 13 (by decide)).no "value" (by decide +kernel)) rfl) (.cons (mkx1k (T.cl 13 (by decide)).x ((T.cl 13 (by decide)).no "value" (by decide +kernel)) rfl) .nil)))) (by simp) fun l8 us8 H8 s8 hl8 x8 => ?_
    exact ⟨_, rfl, q l8 us8 H8 ((((((((s0.trans s1).trans s2).trans s3).trans s4).trans s5).trans s6).trans s7).trans s8) hl8 x8⟩
abbrev s_byposition : Stmt := top 41
def ps_byposition (K : PySem.W.Frag) : List V → List Spec
  | [v0] => ((((([(cA K 14, [("position", v0)]), (cA K 14, [("position", v0)]), (cA K 15, [("position", v0)]), (cA K 15, [("position", v0)])] : List Spec) ++ ([(cA K 16, [("position", v0)]), (cA K 16, [("position", v0)])] : List Spec)) ++ ([(cA K 17, [("position", v0)]), (cA K 17, [("position", v0)]), (cA K 18, [("position", v0)]), (cA K 18, [("position", v0)])] : List Spec)) ++ ([(cA K 19, [("position", v0)]), (cA K 19, [("position", v0)])] : List Spec)) ++ ([(cA K 20, [("position", v0)]), (cA K 20, [("position", v0)]), (cA K 21, [("position", v0)]), (cA K 21, [("position", v0)])] : List Spec))
  | _ => []
theorem sc_byposition : FnScope ["_law_one", "_law_made"] ["_law_one"] (defScope s_byposition) := ⟨rfl, rfl, rfl, by decide +kernel, rfl, by decide +kernel, by decide +kernel⟩
theorem ok_byposition (F : FD K "_law_by_position" s_byposition f fd) (T : TX K mg) : FnOk P w K mg base CX0 3 f fd ["_law_one"] (spMk 1 (ps_byposition K)) := by
  refine F.ok sc_byposition (fun vs H Q E h => h.1) (fun cdv A outer s H vs Q E hr h => ?_)
  obtain ⟨hl, q⟩ := h
  match vs, hl, q with
  | [v0], _, q =>
    have hr2 : Room 2 _ := hr.mono (by decide)
    obtain ⟨fd14, F14⟩ := T.i14
    obtain ⟨fd15, F15⟩ := T.i15
    obtain ⟨fd16, F16⟩ := T.i16
    obtain ⟨fd17, F17⟩ := T.i17
    obtain ⟨fd18, F18⟩ := T.i18
    obtain ⟨fd19, F19⟩ := T.i19
    obtain ⟨fd20, F20⟩ := T.i20
    obtain ⟨fd21, F21⟩ := T.i21
    refine ⟨_, PSs.nox (pss_cons (ps_set (i := 1) sc_byposition.nd rfl (Or.inl rfl) (pe_lst (pa_cons (pe_xmk (T.cl 14 (by decide)).x (T.cl 14 (by decide)).i (T.cl 14 (by decide)).t (okI14 F14) hr2 (bP14 F14) pass0 (by decide) rfl (T.cl 14 (by decide)).g (pa_cons (pv 0) pa_nil)) (pa_cons (pe_xmkK (T.cl 14 (by decide)).x (T.cl 14 (by decide)).i (T.cl 14 (by decide)).t (okI14 F14) hr2 (bK14 F14) pass0 rfl (T.cl 14 (by decide)).g (pk_cons (pv 0) pk_nil)) (pa_cons (pe_xmk (T.cl 15 (by decide)).x (T.cl 15 (by decide)).i (T.cl 15 (by decide)).t (okI15 F15) hr2 (bP15 F15) pass0 (by decide) rfl (T.cl 15 (by decide)).g (pa_cons (pv 0) pa_nil)) (pa_cons (pe_xmkK (T.cl 15 (by decide)).x (T.cl 15 (by decide)).i (T.cl 15 (by decide)).t (okI15 F15) hr2 (bK15 F15) pass0 rfl (T.cl 15 (by decide)).g (pk_cons (pv 0) pk_nil)) pa_nil))))))
      (pss_cons (ps_set (i := 1) sc_byposition.nd rfl (Or.inl rfl) (pe_op op_cat (pv 1) (pe_lst (pa_cons (pe_xmk (T.cl 16 (by decide)).x (T.cl 16 (by decide)).i (T.cl 16 (by decide)).t (okI16 F16) hr2 (bP16 F16) pass0 (by decide) rfl (T.cl 16 (by decide)).g (pa_cons (pv 0) pa_nil)) (pa_cons (pe_xmkK (T.cl 16 (by decide)).x (T.cl 16 (by decide)).i (T.cl 16 (by decide)).t (okI16 F16) hr2 (bK16 F16) pass0 rfl (T.cl 16 (by decide)).g (pk_cons (pv 0) pk_nil)) pa_nil)))))
      (pss_cons (ps_set (i := 1) sc_byposition.nd rfl (Or.inl rfl) (pe_op op_cat (pv 1) (pe_lst (pa_cons (pe_xmk (T.cl 17 (by decide)).x (T.cl 17 (by decide)).i (T.cl 17 (by decide)).t (okI17 F17) hr2 (bP17 F17) pass0 (by decide) rfl (T.cl 17 (by decide)).g (pa_cons (pv 0) pa_nil)) (pa_cons (pe_xmkK (T.cl 17 (by decide)).x (T.cl 17 (by decide)).i (T.cl 17 (by decide)).t (okI17 F17) hr2 (bK17 F17) pass0 rfl (T.cl 17 (by decide)).g (pk_cons (pv 0) pk_nil)) (pa_cons (pe_xmk (T.cl 18 (by decide)).x (T.cl 18 (by decide)).i (T.cl 18 (by decide)).t (okI18 F18) hr2 (bP18 F18) pass0 (by decide) rfl (T.cl 18 (by decide)).g (pa_cons (pv 0) pa_nil)) (pa_cons (pe_xmkK (T.cl 18 (by decide)).x (T.cl 18 (by decide)).i (T.cl 18 (by decide)).t (okI18 F18) hr2 (bK18 F18) pass0 rfl (T.cl 18 (by decide)).g (pk_cons (pv 0) pk_nil)) pa_nil)))))))
      (pss_cons (ps_set (i := 1) sc_byposition.nd rfl (Or.inl rfl) (pe_op op_cat (pv 1) (pe_lst (pa_cons (pe_xmk (T.cl 19 (by decide)).x (T.cl 19 (by decide)).i (T.cl 19 (by decide)).t (okI19 F19) hr2 (bP19 F19) pass0 (by decide) rfl (T.cl 19 (by decide)).g (pa_cons (pv 0) pa_nil)) (pa_cons (pe_xmkK (T.cl 19 (by decide)).x (T.cl 19 (by decide)).i (T.cl 19 (by decide)).t (okI19 F19) hr2 (bK19 F19) pass0 rfl (T.cl 19 (by decide)).g (pk_cons (pv 0) pk_nil)) pa_nil)))))
      (pss_cons (ps_set (i := 1) sc_byposition.nd rfl (Or.inl rfl) (pe_op op_cat (pv 1) (pe_lst (pa_cons (pe_xmk (T.cl 20 (by decide)).x (T.cl 20 (by decide)).i (T.cl 20 (by decide)).t (okI20 F20) hr2 (bP20 F20) pass0 (by decide) rfl (T.cl 20 (by decide)).g (pa_cons (pv 0) pa_nil)) (pa_cons (pe_xmkK (T.cl 20 (by decide)).x (T.cl 20 (by decide)).i (T.cl 20 (by decide)).t (okI20 F20) hr2 (bK20 F20) pass0 rfl (T.cl 20 (by decide)).g (pk_cons (pv 0) pk_nil)) (pa_cons (pe_xmk (T.cl 21 (by decide)).x (T.cl 21 (by decide)).i (T.cl 21 (by decide)).t (okI21 F21) hr2 (bP21 F21) pass0 (by decide) rfl (T.cl 21 (by decide)).g (pa_cons (pv 0) pa_nil)) (pa_cons (pe_xmkK (T.cl 21 (by decide)).x (T.cl 21 (by decide)).i (T.cl 21 (by decide)).t (okI21 F21) hr2 (bK21 F21) pass0 rfl (T.cl 21 (by decide)).g (pk_cons (pv 0) pk_nil)) pa_nil)))))))
      (pss_one (ps_ret (pv 1)))))))), ?_⟩
    refine sq_first (σ2 := fun l => [some v0, some (.ref l)]) (tes := [_, _, _, _]) (ps := [(cA K 14, [("position", v0)]), (cA K 14, [("position", v0)]), (cA K 15, [("position", v0)]), (cA K 15, [("position", v0)])]) (fun _ => rfl) (.cons (mkx1p (T.cl 14 (by decide)).x ((T.cl 14 (by decide)).no "position" (by decide +kernel)) rfl) (.cons (mkx1k (T.cl 14 (by decide)).x ((T.cl 14 (by decide)).no "position" (by decide +kernel)) rfl) (.cons (mkx1p (T.cl 15 (by decide)).x ((T.cl 15 (by decide)).no "position" (by decide +kernel)) rfl) (.cons (mkx1k (T.cl 15 (by decide)).x ((T.cl 15 (by decide)).no "position" (by decide +kernel)) rfl) .nil)))) (by simp) fun l0 us0 H0 s0 hl0 x0 => ?_
    refine sq_more (σ2 := fun l => [some v0, some (.ref l)]) (tes := [_, _]) (qs := [(cA K 16, [("position", v0)]), (cA K 16, [("position", v0)])]) (l := l0) (fun _ => rfl) rfl hl0 x0 (.cons (mkx1p (T.cl 16 (by decide)).x ((T.cl 16 (by decide)).no "position" (by decide +kernel)) rfl) (.cons (mkx1k (T.cl 16 (by decide)).x ((T.cl 16 (by decide)).no "position" (by decide +kernel)) rfl) .nil)) (by simp) fun l1 us1 H1 s1 hl1 x1 => ?_
    refine sq_more (σ2 := fun l => [some v0, some (.ref l)]) (tes := [_, _, _, _]) (qs := [(cA K 17, [("position", v0)]), (cA K 17, [("position", v0)]), (cA K 18, [("position", v0)]), (cA K 18, [("position", v0)])]) (l := l1) (fun _ => rfl) rfl hl1 x1 (.cons (mkx1p (T.cl 17 (by decide)).x ((T.cl 17 (by decide)).no "position" (by decide +kernel)) rfl) (.cons (mkx1k (T.cl 17 (by decide)).x ((T.cl 17 (by decide)).no "position" (by decide +kernel)) rfl) (.cons (mkx1p (T.cl 18 (by decide)).x ((T.cl 18 (by decide)).no "position" (by decide +kernel)) rfl) (.cons (mkx1k (T.cl 18 (by decide)).x ((T.cl 18 (by decide)).no "position" (by decide +kernel)) rfl) .nil)))) (by simp) fun l2 us2 H2 s2 hl2 x2 => ?_
    refine sq_more (σ2 := fun l => [some v0, some (.ref l)]) (tes := [_, _]) (qs := [(cA K 19, [("position", v0)]), (cA K 19, [("position", v0)])]) (l := l2) (fun _ => rfl) rfl hl2 x2 (.cons (mkx1p (T.cl 19 (by decide)).x ((T.cl 19 (by decide)).no "position" (by decide +kernel)) rfl) (.cons (mkx1k (T.cl 19 (by decide)).x ((T.cl 19 (by decide)).no "position" (by decide +kernel)) rfl) .nil)) (by simp) fun l3 us3 H3 s3 hl3 x3 => ?_
    refine sq_more (σ2 := fun l => [some v0, some (.ref l)]) (tes := [_, _, _, _]) (qs := [(cA K 20, [("position", v0)]), (cA K 20, [("position", v0)]), (cA K 21, [("position", v0)]), (cA K 21, [("position", v0)])]) (l := l3) (fun _ => rfl) rfl hl3 x3 (.cons (mkx1p (T.cl 20 (by decide)).x ((T.cl 20 (by decide)).no "position" (by decide +kernel)) rfl) (.cons (mkx1k (T.cl 20 (by decide)).x ((T.cl 20 (by decide)).no "position" (by decide +kernel)) rfl) (.cons (mkx1p (T.cl 21 (by decide)).x ((T.cl 21 (by decide)).no "position" (by decide +kernel)) rfl) (.cons (mkx1k (T.cl 21 (by decide)).x ((T.cl 21 (by decide)).no "position" (by decide +kernel)) rfl) .nil)))) (by simp) fun l4 us4 H4 s4 hl4 x4 => ?_
    exact ⟨_, rfl, q l4 us4 H4 ((((s0.trans s1).trans s2).trans s3).trans s4) hl4 x4⟩
abbrev s_bytwo : Stmt := top 42
def ps_bytwo (K : PySem.W.Frag) : List V → List Spec
  | [v0, v1] => ((((([(cA K 22, [("key", v0)]), (cA K 22, [("key", v0)]), (cA K 23, [("key", v0)]), (cA K 23, [("key", v0)])] : List Spec) ++ ([(cA K 24, [("position", v1), ("part", v0)]), (cA K 24, [("position", v1), ("part", v0)])] : List Spec)) ++ ([(cA K 25, [("position", v1), ("part", v0)]), (cA K 25, [("position", v1), ("part", v0)])] : List Spec)) ++ ([(cA K 26, [("key", v1), ("part", v0)]), (cA K 26, [("key", v1), ("part", v0)])] : List Spec)) ++ ([(cA K 27, [("key", v1), ("part", v0)]), (cA K 27, [("key", v1), ("part", v0)])] : List Spec))
  | _ => []
theorem sc_bytwo : FnScope ["_law_one", "_law_two", "_law_made"] ["_law_one", "_law_two"] (defScope s_bytwo) := ⟨rfl, rfl, rfl, by decide +kernel, rfl, by decide +kernel, by decide +kernel⟩
theorem ok_bytwo (F : FD K "_law_by_two" s_bytwo f fd) (T : TX K mg) : FnOk P w K mg base CX0 3 f fd ["_law_one", "_law_two"] (spMk 2 (ps_bytwo K)) := by
  refine F.ok sc_bytwo (fun vs H Q E h => h.1) (fun cdv A outer s H vs Q E hr h => ?_)
  obtain ⟨hl, q⟩ := h
  match vs, hl, q with
  | [v0, v1], _, q =>
    have hr2 : Room 2 _ := hr.mono (by decide)
    obtain ⟨fd22, F22⟩ := T.i22
    obtain ⟨fd23, F23⟩ := T.i23
    obtain ⟨fd24, F24⟩ := T.i24
    obtain ⟨fd25, F25⟩ := T.i25
    obtain ⟨fd26, F26⟩ := T.i26
    obtain ⟨fd27, F27⟩ := T.i27
    refine ⟨_, PSs.nox (pss_cons (ps_set (i := 2) sc_bytwo.nd rfl (Or.inl rfl) (pe_lst (pa_cons (pe_xmk (T.cl 22 (by decide)).x (T.cl 22 (by decide)).i (T.cl 22 (by decide)).t (okI22 F22) hr2 (bP22 F22) pass0 (by decide) rfl (T.cl 22 (by decide)).g (pa_cons (pv 0) pa_nil)) (pa_cons (pe_xmkK (T.cl 22 (by decide)).x (T.cl 22 (by decide)).i (T.cl 22 (by decide)).t (okI22 F22) hr2 (bK22 F22) pass0 rfl (T.cl 22 (by decide)).g (pk_cons (pv 0) pk_nil)) (pa_cons (pe_xmk (T.cl 23 (by decide)).x (T.cl 23 (by decide)).i (T.cl 23 (by decide)).t (okI23 F23) hr2 (bP23 F23) pass0 (by decide) rfl (T.cl 23 (by decide)).g (pa_cons (pv 0) pa_nil)) (pa_cons (pe_xmkK (T.cl 23 (by decide)).x (T.cl 23 (by decide)).i (T.cl 23 (by decide)).t (okI23 F23) hr2 (bK23 F23) pass0 rfl (T.cl 23 (by decide)).g (pk_cons (pv 0) pk_nil)) pa_nil))))))
      (pss_cons (ps_set (i := 2) sc_bytwo.nd rfl (Or.inl rfl) (pe_op op_cat (pv 2) (pe_lst (pa_cons (pe_xmk (T.cl 24 (by decide)).x (T.cl 24 (by decide)).i (T.cl 24 (by decide)).t (okI24 F24) hr2 (bP24 F24) pass0 (by decide) rfl (T.cl 24 (by decide)).g (pa_cons (pv 0) (pa_cons (pv 1) pa_nil))) (pa_cons (pe_xmkK (T.cl 24 (by decide)).x (T.cl 24 (by decide)).i (T.cl 24 (by decide)).t (okI24 F24) hr2 (bK24 F24) pass0 rfl (T.cl 24 (by decide)).g (pk_cons (pv 1) (pk_cons (pv 0) pk_nil))) pa_nil)))))
      (pss_cons (ps_set (i := 2) sc_bytwo.nd rfl (Or.inl rfl) (pe_op op_cat (pv 2) (pe_lst (pa_cons (pe_xmk (T.cl 25 (by decide)).x (T.cl 25 (by decide)).i (T.cl 25 (by decide)).t (okI25 F25) hr2 (bP25 F25) pass0 (by decide) rfl (T.cl 25 (by decide)).g (pa_cons (pv 0) (pa_cons (pv 1) pa_nil))) (pa_cons (pe_xmkK (T.cl 25 (by decide)).x (T.cl 25 (by decide)).i (T.cl 25 (by decide)).t (okI25 F25) hr2 (bK25 F25) pass0 rfl (T.cl 25 (by decide)).g (pk_cons (pv 1) (pk_cons (pv 0) pk_nil))) pa_nil)))))
      (pss_cons (ps_set (i := 2) sc_bytwo.nd rfl (Or.inl rfl) (pe_op op_cat (pv 2) (pe_lst (pa_cons (pe_xmk (T.cl 26 (by decide)).x (T.cl 26 (by decide)).i (T.cl 26 (by decide)).t (okI26 F26) hr2 (bP26 F26) pass0 (by decide) rfl (T.cl 26 (by decide)).g (pa_cons (pv 0) (pa_cons (pv 1) pa_nil))) (pa_cons (pe_xmkK (T.cl 26 (by decide)).x (T.cl 26 (by decide)).i (T.cl 26 (by decide)).t (okI26 F26) hr2 (bK26 F26) pass0 rfl (T.cl 26 (by decide)).g (pk_cons (pv 1) (pk_cons (pv 0) pk_nil))) pa_nil)))))
      (pss_one (ps_ret (pe_op op_cat (pv 2) (pe_lst (pa_cons (pe_xmk (T.cl 27 (by decide)).x (T.cl 27 (by decide)).i (T.cl 27 (by decide)).t (okI27 F27) hr2 (bP27 F27) pass0 (by decide) rfl (T.cl 27 (by decide)).g (pa_cons (pv 0) (pa_cons (pv 1) pa_nil))) (pa_cons (pe_xmkK (T.cl 27 (by decide)).x (T.cl 27 (by decide)).i (T.cl 27 (by decide)).t (okI27 F27) hr2 (bK27 F27) pass0 rfl (T.cl 27 (by decide)).g (pk_cons (pv 1) (pk_cons (pv 0) pk_nil))) pa_nil)))))))))), ?_⟩
    refine sq_first (σ2 := fun l => [some v0, some v1, some (.ref l)]) (tes := [_, _, _, _]) (ps := [(cA K 22, [("key", v0)]), (cA K 22, [("key", v0)]), (cA K 23, [("key", v0)]), (cA K 23, [("key", v0)])]) (fun _ => rfl) (.cons (mkx1p (T.cl 22 (by decide)).x ((T.cl 22 (by decide)).no "key" (by decide +kernel)) rfl) (.cons (mkx1k (T.cl 22 (by decide)).x ((T.cl 22 (by decide)).no "key" (by decide +kernel)) rfl) (.cons (mkx1p (T.cl 23 (by decide)).x ((T.cl 23 (by decide)).no "key" (by decide +kernel)) rfl) (.cons (mkx1k (T.cl 23 (by decide)).x ((T.cl 23 (by decide)).no "key" (by decide +kernel)) rfl) .nil)))) (by simp) fun l0 us0 H0 s0 hl0 x0 => ?_
    refine sq_more (σ2 := fun l => [some v0, some v1, some (.ref l)]) (tes := [_, _]) (qs := [(cA K 24, [("position", v1), ("part", v0)]), (cA K 24, [("position", v1), ("part", v0)])]) (l := l0) (fun _ => rfl) rfl hl0 x0 (.cons (mkx2p (T.cl 24 (by decide)).x ((T.cl 24 (by decide)).no "part" (by decide +kernel)) ((T.cl 24 (by decide)).no "position" (by decide +kernel)) rfl rfl) (.cons (mkx2k (T.cl 24 (by decide)).x ((T.cl 24 (by decide)).no "part" (by decide +kernel)) ((T.cl 24 (by decide)).no "position" (by decide +kernel)) rfl rfl) .nil)) (by simp) fun l1 us1 H1 s1 hl1 x1 => ?_
    refine sq_more (σ2 := fun l => [some v0, some v1, some (.ref l)]) (tes := [_, _]) (qs := [(cA K 25, [("position", v1), ("part", v0)]), (cA K 25, [("position", v1), ("part", v0)])]) (l := l1) (fun _ => rfl) rfl hl1 x1 (.cons (mkx2p (T.cl 25 (by decide)).x ((T.cl 25 (by decide)).no "part" (by decide +kernel)) ((T.cl 25 (by decide)).no "position" (by decide +kernel)) rfl rfl) (.cons (mkx2k (T.cl 25 (by decide)).x ((T.cl 25 (by decide)).no "part" (by decide +kernel)) ((T.cl 25 (by decide)).no "position" (by decide +kernel)) rfl rfl) .nil)) (by simp) fun l2 us2 H2 s2 hl2 x2 => ?_
    refine sq_more (σ2 := fun l => [some v0, some v1, some (.ref l)]) (tes := [_, _]) (qs := [(cA K 26, [("key", v1), ("part", v0)]), (cA K 26, [("key", v1), ("part", v0)])]) (l := l2) (fun _ => rfl) rfl hl2 x2 (.cons (mkx2p (T.cl 26 (by decide)).x ((T.cl 26 (by decide)).no "part" (by decide +kernel)) ((T.cl 26 (by decide)).no "key" (by decide +kernel)) rfl rfl) (.cons (mkx2k (T.cl 26 (by decide)).x ((T.cl 26 (by decide)).no "part" (by decide +kernel)) ((T.cl 26 (by decide)).no "key" (by decide +kernel)) rfl rfl) .nil)) (by simp) fun l3 us3 H3 s3 hl3 x3 => ?_
    exact cat_x (tes := [_, _]) (qs := [(cA K 27, [("key", v1), ("part", v0)]), (cA K 27, [("key", v1), ("part", v0)])]) (l := l3) rfl hl3 x3 (.cons (mkx2p (T.cl 27 (by decide)).x ((T.cl 27 (by decide)).no "part" (by decide +kernel)) ((T.cl 27 (by decide)).no "key" (by decide +kernel)) rfl rfl) (.cons (mkx2k (T.cl 27 (by decide)).x ((T.cl 27 (by decide)).no "part" (by decide +kernel)) ((T.cl 27 (by decide)).no "key" (by decide +kernel)) rfl rfl) .nil)) (by simp) fun lz uz Hz sz hz xz => q lz uz Hz ((((s0.trans s1).trans s2).trans s3).trans sz) hz xz
abbrev s_others : Stmt := top 43
def ps_others (K : PySem.W.Frag) : List V → List Spec
  | [v0, v1] => (([(cA K 28, [("part", v0)]), (cA K 28, [("part", v0)]), (cA K 29, [("line", v0)]), (cA K 29, [("line", v0)]), (cA K 30, [])] : List Spec) ++ ([(cA K 30, []), (cA K 31, []), (cA K 31, []), (cA K 32, [("limit", v1), ("what", v0)]), (cA K 32, [("limit", v1), ("what", v0)])] : List Spec))
  | _ => []
theorem sc_others : FnScope ["_law_one", "_law_two", "_law_made"] ["_law_one", "_law_two"] (defScope s_others) := ⟨rfl, rfl, rfl, by decide +kernel, rfl, by decide +kernel, by decide +kernel⟩
theorem ok_others (F : FD K "_law_others" s_others f fd) (T : TX K mg) : FnOk P w K mg base CX0 3 f fd ["_law_one", "_law_two"] (spMk 2 (ps_others K)) := by
  refine F.ok sc_others (fun vs H Q E h => h.1) (fun cdv A outer s H vs Q E hr h => ?_)
  obtain ⟨hl, q⟩ := h
  match vs, hl, q with
  | [v0, v1], _, q =>
    have hr2 : Room 2 _ := hr.mono (by decide)
    obtain ⟨fd28, F28⟩ := T.i28
    obtain ⟨fd29, F29⟩ := T.i29
    obtain ⟨fd30, F30⟩ := T.i30
    obtain ⟨fd31, F31⟩ := T.i31
    obtain ⟨fd32, F32⟩ := T.i32
    refine ⟨_, PSs.nox (pss_cons (ps_set (i := 2) sc_others.nd rfl (Or.inl rfl) (pe_lst (pa_cons (pe_xmk (T.cl 28 (by decide)).x (T.cl 28 (by decide)).i (T.cl 28 (by decide)).t (okI28 F28) hr2 (bP28 F28) pass0 (by decide) rfl (T.cl 28 (by decide)).g (pa_cons (pv 0) pa_nil)) (pa_cons (pe_xmkK (T.cl 28 (by decide)).x (T.cl 28 (by decide)).i (T.cl 28 (by decide)).t (okI28 F28) hr2 (bK28 F28) pass0 rfl (T.cl 28 (by decide)).g (pk_cons (pv 0) pk_nil)) (pa_cons (pe_xmk (T.cl 29 (by decide)).x (T.cl 29 (by decide)).i (T.cl 29 (by decide)).t (okI29 F29) hr2 (bP29 F29) pass0 (by decide) rfl (T.cl 29 (by decide)).g (pa_cons (pv 0) pa_nil)) (pa_cons (pe_xmkK (T.cl 29 (by decide)).x (T.cl 29 (by decide)).i (T.cl 29 (by decide)).t (okI29 F29) hr2 (bK29 F29) pass0 rfl (T.cl 29 (by decide)).g (pk_cons (pv 0) pk_nil)) (pa_cons (pe_xmk0 (T.cl 30 (by decide)).x (T.cl 30 (by decide)).i (T.cl 30 (by decide)).t (okI30 F30) hr2 (bP30 F30) pass0 rfl (T.cl 30 (by decide)).g) pa_nil)))))))
      (pss_one (ps_ret (pe_op op_cat (pv 2) (pe_lst (pa_cons (pe_xmk0 (T.cl 30 (by decide)).x (T.cl 30 (by decide)).i (T.cl 30 (by decide)).t (okI30 F30) hr2 (bP30 F30) pass0 rfl (T.cl 30 (by decide)).g) (pa_cons (pe_xmk0 (T.cl 31 (by decide)).x (T.cl 31 (by decide)).i (T.cl 31 (by decide)).t (okI31 F31) hr2 (bP31 F31) pass0 rfl (T.cl 31 (by decide)).g) (pa_cons (pe_xmk0 (T.cl 31 (by decide)).x (T.cl 31 (by decide)).i (T.cl 31 (by decide)).t (okI31 F31) hr2 (bP31 F31) pass0 rfl (T.cl 31 (by decide)).g) (pa_cons (pe_xmk (T.cl 32 (by decide)).x (T.cl 32 (by decide)).i (T.cl 32 (by decide)).t (okI32 F32) hr2 (bP32 F32) pass0 (by decide) rfl (T.cl 32 (by decide)).g (pa_cons (pv 0) (pa_cons (pv 1) pa_nil))) (pa_cons (pe_xmkK (T.cl 32 (by decide)).x (T.cl 32 (by decide)).i (T.cl 32 (by decide)).t (okI32 F32) hr2 (bK32 F32) pass0 rfl (T.cl 32 (by decide)).g (pk_cons (pv 1) (pk_cons (pv 0) pk_nil))) pa_nil)))))))))), ?_⟩
    refine sq_first (σ2 := fun l => [some v0, some v1, some (.ref l)]) (tes := [_, _, _, _, _]) (ps := [(cA K 28, [("part", v0)]), (cA K 28, [("part", v0)]), (cA K 29, [("line", v0)]), (cA K 29, [("line", v0)]), (cA K 30, [])]) (fun _ => rfl) (.cons (mkx1p (T.cl 28 (by decide)).x ((T.cl 28 (by decide)).no "part" (by decide +kernel)) rfl) (.cons (mkx1k (T.cl 28 (by decide)).x ((T.cl 28 (by decide)).no "part" (by decide +kernel)) rfl) (.cons (mkx1p (T.cl 29 (by decide)).x ((T.cl 29 (by decide)).no "line" (by decide +kernel)) rfl) (.cons (mkx1k (T.cl 29 (by decide)).x ((T.cl 29 (by decide)).no "line" (by decide +kernel)) rfl) (.cons (mkx0 fun _ => rfl) .nil))))) (by simp) fun l0 us0 H0 s0 hl0 x0 => ?_
    exact cat_x (tes := [_, _, _, _, _]) (qs := [(cA K 30, []), (cA K 31, []), (cA K 31, []), (cA K 32, [("limit", v1), ("what", v0)]), (cA K 32, [("limit", v1), ("what", v0)])]) (l := l0) rfl hl0 x0 (.cons (mkx0 fun _ => rfl) (.cons (mkx0 fun _ => rfl) (.cons (mkx0 fun _ => rfl) (.cons (mkx2p (T.cl 32 (by decide)).x ((T.cl 32 (by decide)).no "what" (by decide +kernel)) ((T.cl 32 (by decide)).no "limit" (by decide +kernel)) rfl rfl) (.cons (mkx2k (T.cl 32 (by decide)).x ((T.cl 32 (by decide)).no "what" (by decide +kernel)) ((T.cl 32 (by decide)).no "limit" (by decide +kernel)) rfl rfl) .nil))))) (by simp) fun lz uz Hz sz hz xz => q lz uz Hz (s0.trans sz) hz xz
end
end K19

end PK19d
section PK19e
set_option maxHeartbeats 4000000
namespace K19
open PySem L2
/-! ### lists of truth values -/
theorem dp_bools {K : PySem.W.Frag} {H : Hp} : ∀ bs : List Bool, DpAll K H (bs.map V.bl) (bs.map PyData.bool)
  | [] => .nil
  | b :: bs => .cons (.bl b) (dp_bools bs)
theorem dp_list {K : PySem.W.Frag} {H : Hp} {l : Addr} {bs : List Bool} (h : H l = some (.lst (bs.map V.bl))) : Dp K H (.ref l) (.list (bs.map PyData.bool)) := .lst (SqL.of h) (dp_bools bs)
theorem eqv_bools : ∀ bs : List Bool, PyData.eqvAll (bs.map PyData.bool) (bs.map PyData.bool) = true
  | [] => rfl
  | b :: bs => by
    show ((b == b) && PyData.eqvAll (bs.map PyData.bool) (bs.map PyData.bool)) = true
    rw [eqv_bools bs, Bool.and_true]
    exact beq_self_eq_true b
/-! ### isinstance -/
theorem boot_isi : bootBuiltins "isinstance" = some (.builtin "isinstance") := by decide +kernel
def grp (k : Nat) : Nat := if 9 ≤ k ∧ k < 14 then 1 else if k = 31 then 2 else if k = 32 then 3 else 0
structure TI (K : PySem.W.Frag) (mg : Str → Option Value) : Prop where
  kit : ∀ k i, k < 33 → i < 33 → PySem.W.kitOne K (.ref (cA K k)) (.ref (cA K i)) = some (decide ((i : Int) = (k : Int)))
  gK : mg "KeptError" = some (.ref (He.ga K "KeptError"))
  b0 : ∀ k, k < 33 → PySem.W.kitOne K (.ref (cA K k)) (.ref (He.ga K "KeptError")) = some (decide (grp k = 0))
  b1 : ∀ k, k < 33 → PySem.W.kitOne K (.ref (cA K k)) (.type "LookupError") = some (decide (grp k = 1))
  b2 : ∀ k, k < 33 → PySem.W.kitOne K (.ref (cA K k)) (.type "RuntimeError") = some (decide (grp k = 2))
  b3 : ∀ k, k < 33 → PySem.W.kitOne K (.ref (cA K k)) (.type "ArithmeticError") = some (decide (grp k = 3))
  b4 : ∀ k, k < 33 → PySem.W.kitOne K (.ref (cA K k)) (.type "ValueError") = some (decide (grp k = 0))
  any : ∀ k, k < 33 → PySem.W.kitAny K (.ref (cA K k)) [.ref (He.ga K "KeptError"), .type "LookupError", .type "RuntimeError", .type "ArithmeticError"] = some true
  le : mg "LookupError" = none
  re : mg "RuntimeError" = none
  ae : mg "ArithmeticError" = none
  ve : mg "ValueError" = none
theorem is_el {K : PySem.W.Frag} {σ : St} {H : Hp} {a C : Addr} {fs : List (Str × V)} {c : V} {u : Value} {b : Bool} (e : σ[0]? = some (some (.ref a))) (T : XC K C) (x : IsX H C fs a) (k : ClsV c u) (h : PySem.W.kitOne K (.ref C) u = some b) :
    ∀ Q : VK, Q (.bl b) H → tCB (rIsX K) (tCons (tVar 0) (tCons (tC c) tNil)) σ H Q := fun Q q => ⟨_, e, a, C, fs, c, u, b, rfl, k, T, x, h, q⟩
def marksB (k : Int) : List Bool := [decide (((0 : Nat) : Int) = k), decide (((1 : Nat) : Int) = k), decide (((2 : Nat) : Int) = k), decide (((3 : Nat) : Int) = k), decide (((4 : Nat) : Int) = k), decide (((5 : Nat) : Int) = k), decide (((6 : Nat) : Int) = k), decide (((7 : Nat) : Int) = k), decide (((8 : Nat) : Int) = k), decide (((9 : Nat) : Int) = k), decide (((10 : Nat) : Int) = k), decide (((11 : Nat) : Int) = k), decide (((12 : Nat) : Int) = k), decide (((13 : Nat) : Int) = k), decide (((14 : Nat) : Int) = k), decide (((15 : Nat) : Int) = k), decide (((16 : Nat) : Int) = k), decide (((17 : Nat) : Int) = k), decide (((18 : Nat) : Int) = k), decide (((19 : Nat) : Int) = k), decide (((20 : Nat) : Int) = k), decide (((21 : Nat) : Int) = k), decide (((22 : Nat) : Int) = k), decide (((23 : Nat) : Int) = k), decide (((24 : Nat) : Int) = k), decide (((25 : Nat) : Int) = k), decide (((26 : Nat) : Int) = k), decide (((27 : Nat) : Int) = k), decide (((28 : Nat) : Int) = k), decide (((29 : Nat) : Int) = k), decide (((30 : Nat) : Int) = k), decide (((31 : Nat) : Int) = k), decide (((32 : Nat) : Int) = k)]
def spMarks (K : PySem.W.Frag) : Sp := fun vs H Q _ => ∃ (a : Addr) (k : Nat) (fs : List (Str × V)), vs = [.ref a] ∧ k < 33 ∧ IsX H (cA K k) fs a ∧ ∀ l H', Same H H' → H' l = some (.lst ((marksB k).map V.bl)) → Q (.ref l) H'
def spBase (K : PySem.W.Frag) : Sp := fun vs H Q _ => ∃ (a : Addr) (k : Nat) (fs : List (Str × V)), vs = [.ref a, .int k] ∧ k < 33 ∧ IsX H (cA K k) fs a ∧ ∀ H', Same H H' → Q (.bl true) H'
def spCaught (K : PySem.W.Frag) : Sp := fun vs H Q _ => ∃ (a : Addr) (k : Nat) (fs : List (Str × V)), vs = [.ref a] ∧ k < 33 ∧ IsX H (cA K k) fs a ∧ ∀ H', Same H H' → Q (.bl true) H'
section
variable {P : Program} {w : World} {K : PySem.W.Frag} {mg : Str → Option Value} {base : Heap} {f : Addr} {fd : FuncData}
abbrev s_marks : Stmt := top 44
theorem sc_marks : FnScope ["_law_made", "_law_marks_here"] ["_law_made"] (defScope s_marks) := ⟨rfl, rfl, rfl, by decide +kernel, rfl, by decide +kernel, by decide +kernel⟩
theorem ok_marks (F : FD K "_law_marks" s_marks f fd) (T : TX K mg) (U : TI K mg) : FnOk P w K mg base CX0 1 f fd ["_law_made"] (spMarks K) := by
  refine F.ok sc_marks (fun vs H Q E h => ?_) (fun cdv A outer s H vs Q E hr h => ?_)
  · obtain ⟨a, k, fs, rfl, _⟩ := h
    rfl
  obtain ⟨a, k, fs, rfl, hk, x, q⟩ := h
  have X := (T.cl k hk).x
  refine ⟨_, PSs.nox (pss_cons (ps_set (i := 1) sc_marks.nd rfl (Or.inl rfl) (pe_lst (pa_cons (pe_callB call_isX (by rfl) T.isi boot_isi (pa_cons (pv 0) (pa_cons (pe_glob (v := .ref (cA K 0)) rfl (T.cl 0 (by decide)).g rfl) pa_nil))) (pa_cons (pe_callB call_isX (by rfl) T.isi boot_isi (pa_cons (pv 0) (pa_cons (pe_glob (v := .ref (cA K 1)) rfl (T.cl 1 (by decide)).g rfl) pa_nil))) (pa_cons (pe_callB call_isX (by rfl) T.isi boot_isi (pa_cons (pv 0) (pa_cons (pe_glob (v := .ref (cA K 2)) rfl (T.cl 2 (by decide)).g rfl) pa_nil))) pa_nil)))))
    (pss_cons (ps_set (i := 1) sc_marks.nd rfl (Or.inl rfl) (pe_op op_cat (pv 1) (pe_lst (pa_cons (pe_callB call_isX (by rfl) T.isi boot_isi (pa_cons (pv 0) (pa_cons (pe_glob (v := .ref (cA K 3)) rfl (T.cl 3 (by decide)).g rfl) pa_nil))) pa_nil))))
    (pss_cons (ps_set (i := 1) sc_marks.nd rfl (Or.inl rfl) (pe_op op_cat (pv 1) (pe_lst (pa_cons (pe_callB call_isX (by rfl) T.isi boot_isi (pa_cons (pv 0) (pa_cons (pe_glob (v := .ref (cA K 4)) rfl (T.cl 4 (by decide)).g rfl) pa_nil))) (pa_cons (pe_callB call_isX (by rfl) T.isi boot_isi (pa_cons (pv 0) (pa_cons (pe_glob (v := .ref (cA K 5)) rfl (T.cl 5 (by decide)).g rfl) pa_nil))) (pa_cons (pe_callB call_isX (by rfl) T.isi boot_isi (pa_cons (pv 0) (pa_cons (pe_glob (v := .ref (cA K 6)) rfl (T.cl 6 (by decide)).g rfl) pa_nil))) pa_nil))))))
    (pss_cons (ps_set (i := 1) sc_marks.nd rfl (Or.inl rfl) (pe_op op_cat (pv 1) (pe_lst (pa_cons (pe_callB call_isX (by rfl) T.isi boot_isi (pa_cons (pv 0) (pa_cons (pe_glob (v := .ref (cA K 7)) rfl (T.cl 7 (by decide)).g rfl) pa_nil))) pa_nil))))
    (pss_cons (ps_set (i := 1) sc_marks.nd rfl (Or.inl rfl) (pe_op op_cat (pv 1) (pe_lst (pa_cons (pe_callB call_isX (by rfl) T.isi boot_isi (pa_cons (pv 0) (pa_cons (pe_glob (v := .ref (cA K 8)) rfl (T.cl 8 (by decide)).g rfl) pa_nil))) (pa_cons (pe_callB call_isX (by rfl) T.isi boot_isi (pa_cons (pv 0) (pa_cons (pe_glob (v := .ref (cA K 9)) rfl (T.cl 9 (by decide)).g rfl) pa_nil))) (pa_cons (pe_callB call_isX (by rfl) T.isi boot_isi (pa_cons (pv 0) (pa_cons (pe_glob (v := .ref (cA K 10)) rfl (T.cl 10 (by decide)).g rfl) pa_nil))) pa_nil))))))
    (pss_cons (ps_set (i := 1) sc_marks.nd rfl (Or.inl rfl) (pe_op op_cat (pv 1) (pe_lst (pa_cons (pe_callB call_isX (by rfl) T.isi boot_isi (pa_cons (pv 0) (pa_cons (pe_glob (v := .ref (cA K 11)) rfl (T.cl 11 (by decide)).g rfl) pa_nil))) pa_nil))))
    (pss_cons (ps_set (i := 1) sc_marks.nd rfl (Or.inl rfl) (pe_op op_cat (pv 1) (pe_lst (pa_cons (pe_callB call_isX (by rfl) T.isi boot_isi (pa_cons (pv 0) (pa_cons (pe_glob (v := .ref (cA K 12)) rfl (T.cl 12 (by decide)).g rfl) pa_nil))) (pa_cons (pe_callB call_isX (by rfl) T.isi boot_isi (pa_cons (pv 0) (pa_cons (pe_glob (v := .ref (cA K 13)) rfl (T.cl 13 (by decide)).g rfl) pa_nil))) (pa_cons (pe_callB call_isX (by rfl) T.isi boot_isi (pa_cons (pv 0) (pa_cons (pe_glob (v := .ref (cA K 14)) rfl (T.cl 14 (by decide)).g rfl) pa_nil))) pa_nil))))))
    (pss_cons (ps_set (i := 1) sc_marks.nd rfl (Or.inl rfl) (pe_op op_cat (pv 1) (pe_lst (pa_cons (pe_callB call_isX (by rfl) T.isi boot_isi (pa_cons (pv 0) (pa_cons (pe_glob (v := .ref (cA K 15)) rfl (T.cl 15 (by decide)).g rfl) pa_nil))) pa_nil))))
    (pss_cons (ps_set (i := 1) sc_marks.nd rfl (Or.inl rfl) (pe_op op_cat (pv 1) (pe_lst (pa_cons (pe_callB call_isX (by rfl) T.isi boot_isi (pa_cons (pv 0) (pa_cons (pe_glob (v := .ref (cA K 16)) rfl (T.cl 16 (by decide)).g rfl) pa_nil))) (pa_cons (pe_callB call_isX (by rfl) T.isi boot_isi (pa_cons (pv 0) (pa_cons (pe_glob (v := .ref (cA K 17)) rfl (T.cl 17 (by decide)).g rfl) pa_nil))) (pa_cons (pe_callB call_isX (by rfl) T.isi boot_isi (pa_cons (pv 0) (pa_cons (pe_glob (v := .ref (cA K 18)) rfl (T.cl 18 (by decide)).g rfl) pa_nil))) pa_nil))))))
    (pss_cons (ps_set (i := 1) sc_marks.nd rfl (Or.inl rfl) (pe_op op_cat (pv 1) (pe_lst (pa_cons (pe_callB call_isX (by rfl) T.isi boot_isi (pa_cons (pv 0) (pa_cons (pe_glob (v := .ref (cA K 19)) rfl (T.cl 19 (by decide)).g rfl) pa_nil))) pa_nil))))
    (pss_cons (ps_set (i := 1) sc_marks.nd rfl (Or.inl rfl) (pe_op op_cat (pv 1) (pe_lst (pa_cons (pe_callB call_isX (by rfl) T.isi boot_isi (pa_cons (pv 0) (pa_cons (pe_glob (v := .ref (cA K 20)) rfl (T.cl 20 (by decide)).g rfl) pa_nil))) (pa_cons (pe_callB call_isX (by rfl) T.isi boot_isi (pa_cons (pv 0) (pa_cons (pe_glob (v := .ref (cA K 21)) rfl (T.cl 21 (by decide)).g rfl) pa_nil))) (pa_cons (pe_callB call_isX (by rfl) T.isi boot_isi (pa_cons (pv 0) (pa_cons (pe_glob (v := .ref (cA K 22)) rfl (T.cl 22 (by decide)).g rfl) pa_nil))) pa_nil))))))
    (pss_cons (ps_set (i := 1) sc_marks.nd rfl (Or.inl rfl) (pe_op op_cat (pv 1) (pe_lst (pa_cons (pe_callB call_isX (by rfl) T.isi boot_isi (pa_cons (pv 0) (pa_cons (pe_glob (v := .ref (cA K 23)) rfl (T.cl 23 (by decide)).g rfl) pa_nil))) pa_nil))))
    (pss_cons (ps_set (i := 1) sc_marks.nd rfl (Or.inl rfl) (pe_op op_cat (pv 1) (pe_lst (pa_cons (pe_callB call_isX (by rfl) T.isi boot_isi (pa_cons (pv 0) (pa_cons (pe_glob (v := .ref (cA K 24)) rfl (T.cl 24 (by decide)).g rfl) pa_nil))) (pa_cons (pe_callB call_isX (by rfl) T.isi boot_isi (pa_cons (pv 0) (pa_cons (pe_glob (v := .ref (cA K 25)) rfl (T.cl 25 (by decide)).g rfl) pa_nil))) pa_nil)))))
    (pss_cons (ps_set (i := 1) sc_marks.nd rfl (Or.inl rfl) (pe_op op_cat (pv 1) (pe_lst (pa_cons (pe_callB call_isX (by rfl) T.isi boot_isi (pa_cons (pv 0) (pa_cons (pe_glob (v := .ref (cA K 26)) rfl (T.cl 26 (by decide)).g rfl) pa_nil))) (pa_cons (pe_callB call_isX (by rfl) T.isi boot_isi (pa_cons (pv 0) (pa_cons (pe_glob (v := .ref (cA K 27)) rfl (T.cl 27 (by decide)).g rfl) pa_nil))) pa_nil)))))
    (pss_cons (ps_set (i := 1) sc_marks.nd rfl (Or.inl rfl) (pe_op op_cat (pv 1) (pe_lst (pa_cons (pe_callB call_isX (by rfl) T.isi boot_isi (pa_cons (pv 0) (pa_cons (pe_glob (v := .ref (cA K 28)) rfl (T.cl 28 (by decide)).g rfl) pa_nil))) (pa_cons (pe_callB call_isX (by rfl) T.isi boot_isi (pa_cons (pv 0) (pa_cons (pe_glob (v := .ref (cA K 29)) rfl (T.cl 29 (by decide)).g rfl) pa_nil))) (pa_cons (pe_callB call_isX (by rfl) T.isi boot_isi (pa_cons (pv 0) (pa_cons (pe_glob (v := .ref (cA K 30)) rfl (T.cl 30 (by decide)).g rfl) pa_nil))) pa_nil))))))
    (pss_cons (ps_set (i := 1) sc_marks.nd rfl (Or.inl rfl) (pe_op op_cat (pv 1) (pe_lst (pa_cons (pe_callB call_isX (by rfl) T.isi boot_isi (pa_cons (pv 0) (pa_cons (pe_glob (v := .ref (cA K 31)) rfl (T.cl 31 (by decide)).g rfl) pa_nil))) pa_nil))))
    (pss_cons (ps_set (i := 1) sc_marks.nd rfl (Or.inl rfl) (pe_op op_cat (pv 1) (pe_lst (pa_cons (pe_callB call_isX (by rfl) T.isi boot_isi (pa_cons (pv 0) (pa_cons (pe_glob (v := .ref (cA K 32)) rfl (T.cl 32 (by decide)).g rfl) pa_nil))) pa_nil))))
    (pss_one (ps_ret (pv 1)))))))))))))))))))), ?_⟩
  refine sp_first (σ2 := fun l => [some (.ref a), some (.ref l)]) (tes := [_, _, _]) (vs := [V.bl (decide (((0 : Nat) : Int) = (k : Int))), V.bl (decide (((1 : Nat) : Int) = (k : Int))), V.bl (decide (((2 : Nat) : Int) = (k : Int)))]) (fun _ => rfl) (.cons (is_el (b := decide (((0 : Nat) : Int) = (k : Int))) rfl X x (.own (cA K 0)) (U.kit k 0 hk (by decide))) (.cons (is_el (b := decide (((1 : Nat) : Int) = (k : Int))) rfl X x (.own (cA K 1)) (U.kit k 1 hk (by decide))) (.cons (is_el (b := decide (((2 : Nat) : Int) = (k : Int))) rfl X x (.own (cA K 2)) (U.kit k 2 hk (by decide))) .nil))) (by show 3 ≤ 1000; decide) fun l0 H0 s0 h0 => ?_
  have x1 := x.same s0
  refine sp_more (σ2 := fun l => [some (.ref a), some (.ref l)]) (tes := [_]) (vs := [V.bl (decide (((3 : Nat) : Int) = (k : Int)))]) (fun _ => rfl) rfl h0 (.cons (is_el (b := decide (((3 : Nat) : Int) = (k : Int))) rfl X x1 (.own (cA K 3)) (U.kit k 3 hk (by decide))) .nil) (by show 3 + 1 ≤ 1000; decide) fun l1 ws1 H1 s1 h1 e1 z1 => ?_
  replace z1 : ws1.length = 4 := by rw [z1] <;> rfl
  have x2 := x1.same s1
  refine sp_more (σ2 := fun l => [some (.ref a), some (.ref l)]) (tes := [_, _, _]) (vs := [V.bl (decide (((4 : Nat) : Int) = (k : Int))), V.bl (decide (((5 : Nat) : Int) = (k : Int))), V.bl (decide (((6 : Nat) : Int) = (k : Int)))]) (fun _ => rfl) rfl h1 (.cons (is_el (b := decide (((4 : Nat) : Int) = (k : Int))) rfl X x2 (.own (cA K 4)) (U.kit k 4 hk (by decide))) (.cons (is_el (b := decide (((5 : Nat) : Int) = (k : Int))) rfl X x2 (.own (cA K 5)) (U.kit k 5 hk (by decide))) (.cons (is_el (b := decide (((6 : Nat) : Int) = (k : Int))) rfl X x2 (.own (cA K 6)) (U.kit k 6 hk (by decide))) .nil))) (by rw [z1]; show 4 + 3 ≤ 1000; decide) fun l2 ws2 H2 s2 h2 e2 z2 => ?_
  replace z2 : ws2.length = 7 := by rw [z2, z1] <;> rfl
  have x3 := x2.same s2
  refine sp_more (σ2 := fun l => [some (.ref a), some (.ref l)]) (tes := [_]) (vs := [V.bl (decide (((7 : Nat) : Int) = (k : Int)))]) (fun _ => rfl) rfl h2 (.cons (is_el (b := decide (((7 : Nat) : Int) = (k : Int))) rfl X x3 (.own (cA K 7)) (U.kit k 7 hk (by decide))) .nil) (by rw [z2]; show 7 + 1 ≤ 1000; decide) fun l3 ws3 H3 s3 h3 e3 z3 => ?_
  replace z3 : ws3.length = 8 := by rw [z3, z2] <;> rfl
  have x4 := x3.same s3
  refine sp_more (σ2 := fun l => [some (.ref a), some (.ref l)]) (tes := [_, _, _]) (vs := [V.bl (decide (((8 : Nat) : Int) = (k : Int))), V.bl (decide (((9 : Nat) : Int) = (k : Int))), V.bl (decide (((10 : Nat) : Int) = (k : Int)))]) (fun _ => rfl) rfl h3 (.cons (is_el (b := decide (((8 : Nat) : Int) = (k : Int))) rfl X x4 (.own (cA K 8)) (U.kit k 8 hk (by decide))) (.cons (is_el (b := decide (((9 : Nat) : Int) = (k : Int))) rfl X x4 (.own (cA K 9)) (U.kit k 9 hk (by decide))) (.cons (is_el (b := decide (((10 : Nat) : Int) = (k : Int))) rfl X x4 (.own (cA K 10)) (U.kit k 10 hk (by decide))) .nil))) (by rw [z3]; show 8 + 3 ≤ 1000; decide) fun l4 ws4 H4 s4 h4 e4 z4 => ?_
  replace z4 : ws4.length = 11 := by rw [z4, z3] <;> rfl
  have x5 := x4.same s4
  refine sp_more (σ2 := fun l => [some (.ref a), some (.ref l)]) (tes := [_]) (vs := [V.bl (decide (((11 : Nat) : Int) = (k : Int)))]) (fun _ => rfl) rfl h4 (.cons (is_el (b := decide (((11 : Nat) : Int) = (k : Int))) rfl X x5 (.own (cA K 11)) (U.kit k 11 hk (by decide))) .nil) (by rw [z4]; show 11 + 1 ≤ 1000; decide) fun l5 ws5 H5 s5 h5 e5 z5 => ?_
  replace z5 : ws5.length = 12 := by rw [z5, z4] <;> rfl
  have x6 := x5.same s5
  refine sp_more (σ2 := fun l => [some (.ref a), some (.ref l)]) (tes := [_, _, _]) (vs := [V.bl (decide (((12 : Nat) : Int) = (k : Int))), V.bl (decide (((13 : Nat) : Int) = (k : Int))), V.bl (decide (((14 : Nat) : Int) = (k : Int)))]) (fun _ => rfl) rfl h5 (.cons (is_el (b := decide (((12 : Nat) : Int) = (k : Int))) rfl X x6 (.own (cA K 12)) (U.kit k 12 hk (by decide))) (.cons (is_el (b := decide (((13 : Nat) : Int) = (k : Int))) rfl X x6 (.own (cA K 13)) (U.kit k 13 hk (by decide))) (.cons (is_el (b := decide (((14 : Nat) : Int) = (k : Int))) rfl X x6 (.own (cA K 14)) (U.kit k 14 hk (by decide))) .nil))) (by rw [z5]; show 12 + 3 ≤ 1000; decide) fun l6 ws6 H6 s6 h6 e6 z6 => ?_
  replace z6 : ws6.length = 15 := by rw [z6, z5] <;> rfl
  have x7 := x6.same s6
  refine sp_more (σ2 := fun l => [some (.ref a), some (.ref l)]) (tes := [_]) (vs := [V.bl (decide (((15 : Nat) : Int) = (k : Int)))]) (fun _ => rfl) rfl h6 (.cons (is_el (b := decide (((15 : Nat) : Int) = (k : Int))) rfl X x7 (.own (cA K 15)) (U.kit k 15 hk (by decide))) .nil) (by rw [z6]; show 15 + 1 ≤ 1000; decide) fun l7 ws7 H7 s7 h7 e7 z7 => ?_
  replace z7 : ws7.length = 16 := by rw [z7, z6] <;> rfl
  have x8 := x7.same s7
  refine sp_more (σ2 := fun l => [some (.ref a), some (.ref l)]) (tes := [_, _, _]) (vs := [V.bl (decide (((16 : Nat) : Int) = (k : Int))), V.bl (decide (((17 : Nat) : Int) = (k : Int))), V.bl (decide (((18 : Nat) : Int) = (k : Int)))]) (fun _ => rfl) rfl h7 (.cons (is_el (b := decide (((16 : Nat) : Int) = (k : Int))) rfl X x8 (.own (cA K 16)) (U.kit k 16 hk (by decide))) (.cons (is_el (b := decide (((17 : Nat) : Int) = (k : Int))) rfl X x8 (.own (cA K 17)) (U.kit k 17 hk (by decide))) (.cons (is_el (b := decide (((18 : Nat) : Int) = (k : Int))) rfl X x8 (.own (cA K 18)) (U.kit k 18 hk (by decide))) .nil))) (by rw [z7]; show 16 + 3 ≤ 1000; decide) fun l8 ws8 H8 s8 h8 e8 z8 => ?_
  replace z8 : ws8.length = 19 := by rw [z8, z7] <;> rfl
  have x9 := x8.same s8
  refine sp_more (σ2 := fun l => [some (.ref a), some (.ref l)]) (tes := [_]) (vs := [V.bl (decide (((19 : Nat) : Int) = (k : Int)))]) (fun _ => rfl) rfl h8 (.cons (is_el (b := decide (((19 : Nat) : Int) = (k : Int))) rfl X x9 (.own (cA K 19)) (U.kit k 19 hk (by decide))) .nil) (by rw [z8]; show 19 + 1 ≤ 1000; decide) fun l9 ws9 H9 s9 h9 e9 z9 => ?_
  replace z9 : ws9.length = 20 := by rw [z9, z8] <;> rfl
  have x10 := x9.same s9
  refine sp_more (σ2 := fun l => [some (.ref a), some (.ref l)]) (tes := [_, _, _]) (vs := [V.bl (decide (((20 : Nat) : Int) = (k : Int))), V.bl (decide (((21 : Nat) : Int) = (k : Int))), V.bl (decide (((22 : Nat) : Int) = (k : Int)))]) (fun _ => rfl) rfl h9 (.cons (is_el (b := decide (((20 : Nat) : Int) = (k : Int))) rfl X x10 (.own (cA K 20)) (U.kit k 20 hk (by decide))) (.cons (is_el (b := decide (((21 : Nat) : Int) = (k : Int))) rfl X x10 (.own (cA K 21)) (U.kit k 21 hk (by decide))) (.cons (is_el (b := decide (((22 : Nat) : Int) = (k : Int))) rfl X x10 (.own (cA K 22)) (U.kit k 22 hk (by decide))) .nil))) (by rw [z9]; show 20 + 3 ≤ 1000; decide) fun l10 ws10 H10 s10 h10 e10 z10 => ?_
  replace z10 : ws10.length = 23 := by rw [z10, z9] <;> rfl
  have x11 := x10.same s10
  refine sp_more (σ2 := fun l => [some (.ref a), some (.ref l)]) (tes := [_]) (vs := [V.bl (decide (((23 : Nat) : Int) = (k : Int)))]) (fun _ => rfl) rfl h10 (.cons (is_el (b := decide (((23 : Nat) : Int) = (k : Int))) rfl X x11 (.own (cA K 23)) (U.kit k 23 hk (by decide))) .nil) (by rw [z10]; show 23 + 1 ≤ 1000; decide) fun l11 ws11 H11 s11 h11 e11 z11 => ?_
  replace z11 : ws11.length = 24 := by rw [z11, z10] <;> rfl
  have x12 := x11.same s11
  refine sp_more (σ2 := fun l => [some (.ref a), some (.ref l)]) (tes := [_, _]) (vs := [V.bl (decide (((24 : Nat) : Int) = (k : Int))), V.bl (decide (((25 : Nat) : Int) = (k : Int)))]) (fun _ => rfl) rfl h11 (.cons (is_el (b := decide (((24 : Nat) : Int) = (k : Int))) rfl X x12 (.own (cA K 24)) (U.kit k 24 hk (by decide))) (.cons (is_el (b := decide (((25 : Nat) : Int) = (k : Int))) rfl X x12 (.own (cA K 25)) (U.kit k 25 hk (by decide))) .nil)) (by rw [z11]; show 24 + 2 ≤ 1000; decide) fun l12 ws12 H12 s12 h12 e12 z12 => ?_
  replace z12 : ws12.length = 26 := by rw [z12, z11] <;> rfl
  have x13 := x12.same s12
  refine sp_more (σ2 := fun l => [some (.ref a), some (.ref l)]) (tes := [_, _]) (vs := [V.bl (decide (((26 : Nat) : Int) = (k : Int))), V.bl (decide (((27 : Nat) : Int) = (k : Int)))]) (fun _ => rfl) rfl h12 (.cons (is_el (b := decide (((26 : Nat) : Int) = (k : Int))) rfl X x13 (.own (cA K 26)) (U.kit k 26 hk (by decide))) (.cons (is_el (b := decide (((27 : Nat) : Int) = (k : Int))) rfl X x13 (.own (cA K 27)) (U.kit k 27 hk (by decide))) .nil)) (by rw [z12]; show 26 + 2 ≤ 1000; decide) fun l13 ws13 H13 s13 h13 e13 z13 => ?_
  replace z13 : ws13.length = 28 := by rw [z13, z12] <;> rfl
  have x14 := x13.same s13
  refine sp_more (σ2 := fun l => [some (.ref a), some (.ref l)]) (tes := [_, _, _]) (vs := [V.bl (decide (((28 : Nat) : Int) = (k : Int))), V.bl (decide (((29 : Nat) : Int) = (k : Int))), V.bl (decide (((30 : Nat) : Int) = (k : Int)))]) (fun _ => rfl) rfl h13 (.cons (is_el (b := decide (((28 : Nat) : Int) = (k : Int))) rfl X x14 (.own (cA K 28)) (U.kit k 28 hk (by decide))) (.cons (is_el (b := decide (((29 : Nat) : Int) = (k : Int))) rfl X x14 (.own (cA K 29)) (U.kit k 29 hk (by decide))) (.cons (is_el (b := decide (((30 : Nat) : Int) = (k : Int))) rfl X x14 (.own (cA K 30)) (U.kit k 30 hk (by decide))) .nil))) (by rw [z13]; show 28 + 3 ≤ 1000; decide) fun l14 ws14 H14 s14 h14 e14 z14 => ?_
  replace z14 : ws14.length = 31 := by rw [z14, z13] <;> rfl
  have x15 := x14.same s14
  refine sp_more (σ2 := fun l => [some (.ref a), some (.ref l)]) (tes := [_]) (vs := [V.bl (decide (((31 : Nat) : Int) = (k : Int)))]) (fun _ => rfl) rfl h14 (.cons (is_el (b := decide (((31 : Nat) : Int) = (k : Int))) rfl X x15 (.own (cA K 31)) (U.kit k 31 hk (by decide))) .nil) (by rw [z14]; show 31 + 1 ≤ 1000; decide) fun l15 ws15 H15 s15 h15 e15 z15 => ?_
  replace z15 : ws15.length = 32 := by rw [z15, z14] <;> rfl
  have x16 := x15.same s15
  refine sp_more (σ2 := fun l => [some (.ref a), some (.ref l)]) (tes := [_]) (vs := [V.bl (decide (((32 : Nat) : Int) = (k : Int)))]) (fun _ => rfl) rfl h15 (.cons (is_el (b := decide (((32 : Nat) : Int) = (k : Int))) rfl X x16 (.own (cA K 32)) (U.kit k 32 hk (by decide))) .nil) (by rw [z15]; show 32 + 1 ≤ 1000; decide) fun l16 ws16 H16 s16 h16 e16 z16 => ?_
  replace z16 : ws16.length = 33 := by rw [z16, z15] <;> rfl
  have x17 := x16.same s16
  have e : ws16 = (marksB (k : Int)).map V.bl := by
    simp only [marksB, e16, e15, e14, e13, e12, e11, e10, e9, e8, e7, e6, e5, e4, e3, e2, e1, List.cons_append, List.nil_append, List.map_cons, List.map_nil]
  exact ⟨_, rfl, q l16 H16 ((((((((((((((((s0.trans s1).trans s2).trans s3).trans s4).trans s5).trans s6).trans s7).trans s8).trans s9).trans s10).trans s11).trans s12).trans s13).trans s14).trans s15).trans s16) (e ▸ h16)⟩
abbrev s_base : Stmt := top 45
abbrev s_caught : Stmt := top 46
theorem sc_base : FnScope ["_law_made", "_law_place", "_law_bases"] ["_law_made", "_law_place"] (defScope s_base) := ⟨rfl, rfl, rfl, by decide +kernel, rfl, by decide +kernel, by decide +kernel⟩
theorem ok_base (F : FD K "_law_base_right" s_base f fd) (T : TX K mg) (U : TI K mg) : FnOk P w K mg base CX0 1 f fd ["_law_made", "_law_place"] (spBase K) := by
  refine F.ok sc_base (fun vs H Q E h => ?_) (fun cdv A outer s H vs Q E hr h => ?_)
  · obtain ⟨a, k, fs, rfl, _⟩ := h
    rfl
  obtain ⟨a, k, fs, rfl, hk, x, q⟩ := h
  have X := (T.cl k hk).x
  refine ⟨_, PSs.nox (pss_cons (ps_set (i := 2) sc_base.nd rfl (Or.inl rfl) (pe_lst (pa_cons (pe_callB call_isX (by rfl) T.isi boot_isi (pa_cons (pv 0) (pa_cons (pe_glob (v := .ref (He.ga K "KeptError")) rfl U.gK rfl) pa_nil))) (pa_cons (pe_callB call_isX (by rfl) T.isi boot_isi (pa_cons (pv 0) (pa_cons (pe_bltn (v := .ty "LookupError") (by rfl) U.le (by decide +kernel) rfl) pa_nil))) (pa_cons (pe_callB call_isX (by rfl) T.isi boot_isi (pa_cons (pv 0) (pa_cons (pe_bltn (v := .ty "RuntimeError") (by rfl) U.re (by decide +kernel) rfl) pa_nil))) pa_nil)))))
    (pss_cons (ps_set (i := 2) sc_base.nd rfl (Or.inl rfl) (pe_op op_cat (pv 2) (pe_lst (pa_cons (pe_callB call_isX (by rfl) T.isi boot_isi (pa_cons (pv 0) (pa_cons (pe_bltn (v := .ty "ArithmeticError") (by rfl) U.ae (by decide +kernel) rfl) pa_nil))) (pa_cons (pe_callB call_isX (by rfl) T.isi boot_isi (pa_cons (pv 0) (pa_cons (pe_bltn (v := .ty "ValueError") (by rfl) U.ve (by decide +kernel) rfl) pa_nil))) pa_nil)))))
    (pss_cons (ps_if (pt_chain op_le op_lt pe_int (pv 1) pe_int) (pss_one (ps_ret (pe_cmpR (op_eqD hr.units) (pv 2) (pe_lst (pa_cons pe_bl (pa_cons pe_bl (pa_cons pe_bl (pa_cons pe_bl (pa_cons pe_bl pa_nil)))))) (nomark _)))) pss_nil)
    (pss_cons (ps_if (pt_cmpR op_eq (pv 1) pe_int (nomark _)) (pss_one (ps_ret (pe_cmpR (op_eqD hr.units) (pv 2) (pe_lst (pa_cons pe_bl (pa_cons pe_bl (pa_cons pe_bl (pa_cons pe_bl (pa_cons pe_bl pa_nil)))))) (nomark _)))) pss_nil)
    (pss_cons (ps_if (pt_cmpR op_eq (pv 1) pe_int (nomark _)) (pss_one (ps_ret (pe_cmpR (op_eqD hr.units) (pv 2) (pe_lst (pa_cons pe_bl (pa_cons pe_bl (pa_cons pe_bl (pa_cons pe_bl (pa_cons pe_bl pa_nil)))))) (nomark _)))) pss_nil)
    (pss_one (ps_ret (pe_cmpR (op_eqD hr.units) (pv 2) (pe_lst (pa_cons pe_bl (pa_cons pe_bl (pa_cons pe_bl (pa_cons pe_bl (pa_cons pe_bl pa_nil)))))) (nomark _))))))))), ?_⟩
  refine sp_first (σ2 := fun l => [some (.ref a), some (.int (k : Int)), some (.ref l)]) (tes := [_, _, _]) (vs := [V.bl (decide (grp k = 0)), V.bl (decide (grp k = 1)), V.bl (decide (grp k = 2))]) (fun _ => rfl) (.cons (is_el rfl X x (.own _) (U.b0 k hk)) (.cons (is_el rfl X x (.ty _) (U.b1 k hk)) (.cons (is_el rfl X x (.ty _) (U.b2 k hk)) .nil))) (by show 3 ≤ 1000; decide) fun l0 H0 s0 h0 => ?_
  have x1 := x.same s0
  refine sp_more (σ2 := fun l => [some (.ref a), some (.int (k : Int)), some (.ref l)]) (tes := [_, _]) (vs := [V.bl (decide (grp k = 3)), V.bl (decide (grp k = 0))]) (fun _ => rfl) rfl h0 (.cons (is_el rfl X x1 (.ty _) (U.b3 k hk)) (.cons (is_el rfl X x1 (.ty _) (U.b4 k hk)) .nil)) (by show 3 + 2 ≤ 1000; decide) fun l1 ws1 H1 s1 h1 ew _ => ?_
  subst ew
  have fin : ∀ (bs : List Bool), [decide (grp k = 0), decide (grp k = 1), decide (grp k = 2), decide (grp k = 3), decide (grp k = 0)] = bs → ∀ {v0 v1 v2 v3 v4 : Bool}, bs = [v0, v1, v2, v3, v4] → tOp (rEqD K) (tVar 2) (tLst (tCons (tC (.bl v0)) (tCons (tC (.bl v1)) (tCons (tC (.bl v2)) (tCons (tC (.bl v3)) (tCons (tC (.bl v4)) tNil)))))) [some (.ref a), some (.int (k : Int)), some (.ref l1)] H1 Q := by
    intro bs e v0 v1 v2 v3 v4 e2
    subst e2
    refine ⟨_, rfl, by show 5 ≤ sizeLine; decide, fun m hm => ?_⟩
    have s2 := same_upd (o := HO.lst [V.bl v0, V.bl v1, V.bl v2, V.bl v3, V.bl v4]) hm
    have h1' : H1 l1 = some (.lst ([v0, v1, v2, v3, v4].map V.bl)) := by rw [← e]; exact h1
    refine ⟨_, _, dp_list (bs := [v0, v1, v2, v3, v4]) (s2 _ _ h1'), dp_list (bs := [v0, v1, v2, v3, v4]) upd_same, rfl, rfl, ?_⟩
    have e3 : PyData.eqv (.list ([v0, v1, v2, v3, v4].map PyData.bool)) (.list ([v0, v1, v2, v3, v4].map PyData.bool)) = true := by
      simp only [PyData.eqv]
      exact eqv_bools _
    rw [e3]
    exact q _ ((s0.trans s1).trans s2)
  refine ⟨_, rfl, _, _, rfl, rfl, _, rfl, ?_⟩
  refine ite2 (fun c1 => ?_) (fun c1 => ?_)
  · refine ⟨_, _, rfl, rfl, _, rfl, ?_⟩
    refine ite2 (fun c2 => ?_) (fun c2 => ?_)
    · have g : grp k = 1 := by
        have a1 := of_decide_eq_true c1
        have a2 := of_decide_eq_true c2
        unfold grp
        rw [if_pos (by omega)]
      exact fin _ rfl (by rw [g] <;> rfl)
    · have ng : ¬ (9 ≤ k ∧ k < 14) := fun z => c2 (decide_eq_true (by omega))
      refine ⟨_, rfl, rfl, _, rfl, ?_⟩
      refine ite2 (fun c3 => ?_) (fun c3 => ?_)
      · have g : grp k = 2 := by
          have a1 := V.int.inj (of_decide_eq_true c3)
          unfold grp
          rw [if_neg ng, if_pos (by omega)]
        exact fin _ rfl (by rw [g] <;> rfl)
      · have n31 : k ≠ 31 := fun z => c3 (decide_eq_true (by rw [z] <;> rfl))
        refine ⟨_, rfl, rfl, _, rfl, ?_⟩
        refine ite2 (fun c4 => ?_) (fun c4 => ?_)
        · have g : grp k = 3 := by
            have a1 := V.int.inj (of_decide_eq_true c4)
            unfold grp
            rw [if_neg ng, if_neg n31, if_pos (by omega)]
          exact fin _ rfl (by rw [g] <;> rfl)
        · have n32 : k ≠ 32 := fun z => c4 (decide_eq_true (by rw [z] <;> rfl))
          have g : grp k = 0 := by
            unfold grp
            rw [if_neg ng, if_neg n31, if_neg n32]
          exact fin _ rfl (by rw [g] <;> rfl)
  · have ng : ¬ (9 ≤ k ∧ k < 14) := fun z => c1 (decide_eq_true (by omega))
    refine ⟨_, rfl, ?_⟩
    refine iteF ?_
    refine ⟨_, rfl, rfl, _, rfl, ?_⟩
    refine ite2 (fun c3 => ?_) (fun c3 => ?_)
    · have g : grp k = 2 := by
        have a1 := V.int.inj (of_decide_eq_true c3)
        unfold grp
        rw [if_neg ng, if_pos (by omega)]
      exact fin _ rfl (by rw [g] <;> rfl)
    · have n31 : k ≠ 31 := fun z => c3 (decide_eq_true (by rw [z] <;> rfl))
      refine ⟨_, rfl, rfl, _, rfl, ?_⟩
      refine ite2 (fun c4 => ?_) (fun c4 => ?_)
      · have g : grp k = 3 := by
          have a1 := V.int.inj (of_decide_eq_true c4)
          unfold grp
          rw [if_neg ng, if_neg n31, if_pos (by omega)]
        exact fin _ rfl (by rw [g] <;> rfl)
      · have n32 : k ≠ 32 := fun z => c4 (decide_eq_true (by rw [z] <;> rfl))
        have g : grp k = 0 := by
          unfold grp
          rw [if_neg ng, if_neg n31, if_neg n32]
        exact fin _ rfl (by rw [g] <;> rfl)
theorem sc_caught : FnScope ["_law_made"] ["_law_made"] (defScope s_caught) := ⟨rfl, rfl, rfl, by decide +kernel, rfl, by decide +kernel, by decide +kernel⟩
theorem ok_caught (F : FD K "_law_caught" s_caught f fd) (T : TX K mg) (U : TI K mg) : FnOk P w K mg base CX0 1 f fd ["_law_made"] (spCaught K) := by
  refine F.ok sc_caught (fun vs H Q E h => ?_) (fun cdv A outer s H vs Q E hr h => ?_)
  · obtain ⟨a, k, fs, rfl, _⟩ := h
    rfl
  obtain ⟨a, k, fs, rfl, hk, x, q⟩ := h
  have X := (T.cl k hk).x
  refine ⟨_, PSs.nox (pss_one (ps_ret (pe_callB call_isXT (by rfl) T.isi boot_isi (pa_cons (pv 0) (pa_cons (pe_tup (pa_cons (pe_glob (v := .ref (He.ga K "KeptError")) rfl U.gK rfl) (pa_cons (pe_bltn (v := .ty "LookupError") (by rfl) U.le (by decide +kernel) rfl) (pa_cons (pe_bltn (v := .ty "RuntimeError") (by rfl) U.re (by decide +kernel) rfl) (pa_cons (pe_bltn (v := .ty "ArithmeticError") (by rfl) U.ae (by decide +kernel) rfl) pa_nil))))) pa_nil))))), ?_⟩
  refine ⟨_, rfl, by show 4 ≤ sizeLine; decide, fun m hm => ?_⟩
  have s2 := same_upd (o := HO.tup [V.ref (He.ga K "KeptError"), V.ty "LookupError", V.ty "RuntimeError", V.ty "ArithmeticError"]) hm
  exact ⟨a, _, m, fs, _, _, true, rfl, upd_same, .cons (.own _) (.cons (.ty _) (.cons (.ty _) (.cons (.ty _) .nil))), X, x.same s2, U.any k hk, q _ s2⟩
end
end K19

end PK19e
section PK19f
set_option maxHeartbeats 4000000
namespace K19
open PySem L2
theorem boot_repr : bootBuiltins "repr" = some (.builtin "repr") := by decide +kernel
theorem boot_all : bootBuiltins "all" = some (.builtin "all") := by decide +kernel
theorem all_true : ∀ n : Nat, (List.replicate n true).all id = true
  | 0 => rfl
  | n + 1 => by
    rw [List.replicate_succ, List.all_cons, all_true n] <;> rfl
/-- all([e for made in xs]), each e True -/
theorem all_lc {K : PySem.W.Frag} {σ : St} {H : Hp} {Q : VK} {wl te : TE} {j : Nat} {xs : List V} (hw : ∀ Q' : VK, (∀ l H1, Same H H1 → SqL K H1 l xs → Q' (.ref l) H1) → wl σ H Q') (hx : xs.length ≤ 1000)
    (hwp : ∀ x, wipe ((wipe σ [j]).set j (some x)) [j] = wipe σ [j]) (hb : ∀ x ∈ xs, ∀ H1, Same H H1 → ∀ Q' : VK, (∀ H2, Same H1 H2 → Q' (.bl true) H2) → te ((wipe σ [j]).set j (some x)) H1 Q')
    (q : ∀ H2, Same H H2 → Q (.bl true) H2) : tCB (rAll K) (tCons (tLc (iList K wl) (gName j) tYes te [j]) tNil) σ H Q := by
  refine hw _ fun l H1 s hl => ⟨l, rfl, ⟨_, hl⟩, fun D hD => ?_⟩
  have sD := same_upd (o := HO.lst []) hD
  refine lc_list (K := K) (a := l) (xs := xs) (fun i H' => Same H1 H' ∧ H' D = some (.lst (List.replicate i (V.bl true)))) ⟨sD, upd_same⟩ (fun i H' _ p => p.1.seq hl) ?_ ?_
  · intro i x H' hi p
    refine ⟨hwp x, ?_⟩
    refine iteT (A := te ((wipe σ [j]).set j (some x)) H' _) (B := Same H1 H' ∧ H' D = some (HO.lst (List.replicate (i + 1) (V.bl true)))) (hb x (List.mem_of_getElem? hi) H' (s.trans p.1) _ fun H2 s2 => ⟨List.replicate i (V.bl true), s2 _ _ p.2, ?_, fun b o e => ?_, ?_⟩)
    · have hlt := (List.getElem?_eq_some_iff.mp hi).1
      rw [List.length_replicate]
      exact Nat.lt_of_lt_of_le (Nat.lt_of_lt_of_le hlt hx) (by decide)
    · rw [upd_ne (ne_of_none e hD)]
      exact s2 _ _ (p.1 _ _ e)
    · rw [upd_same, List.replicate_succ']
  · intro H' p
    refine ⟨D, List.replicate xs.length true, rfl, SqL.of (by rw [p.2, List.map_replicate]), ?_⟩
    rw [all_true]
    exact q H' (s.trans p.1)
structure TF (K : PySem.W.Frag) (mg : Str → Option Value) : Prop where
  repr : mg "repr" = none
  all : mg "all" = none
  mods : noMods K = true
/-- an error of one of the classes, which tells v as its f -/
def HasF (K : PySem.W.Frag) (f : Str) (v : V) (p : Spec) : Prop := ∃ k, k < 33 ∧ p.1 = cA K k ∧ p.2.lookup f = some v
theorem eq_self {H : Hp} {Q : VK} (x : Str) (q : Q (.bl true) H) : rEq (.str x) (.str x) H Q := ⟨rfl, by rw [decide_eq_true rfl]; exact q⟩
/-- repr(made.f) == repr(one) -/
theorem el1 {K : PySem.W.Frag} {mg : Str → Option Value} {σ : St} {H : Hp} {j i : Nat} {f : Str} {a C : Addr} {fs : List (Str × V)} {one : V} (T : XC K C) (no : PySem.W.findIn K (.ref C) f = some none) (ej : σ[j]? = some (some (.ref a))) (ei : σ[i]? = some (some one)) (x : IsX H C fs a) (l : fs.lookup f = some one) (h : Th H one)
    {Q : VK} (q : Q (.bl true) H) : tOp rEq (tCB rRepr (tCons (tXat K f (tVar j)) tNil)) (tCB rRepr (tCons (tVar i) tNil)) σ H Q := by
  obtain ⟨d, r, s1, s2, s3⟩ := h
  exact ⟨_, ej, a, C, fs, one, rfl, T, no, x, l, one, d, rfl, r, s1, small (by omega), by omega, _, ei, one, d, rfl, r, s1, small (by omega), by omega, eq_self _ q⟩
theorem shown_two (d e : PyData) : (PyData.list [d, e]).shown.length ≤ d.shown.length + e.shown.length + 4 := by
  simp only [PyData.shown, PyData.shownAll, listText, textFrom, strLen_append]
  have a1 : (Str.ofString "[").length = 1 := by decide +kernel
  have a2 : (Str.ofString (if 0 > 0 then ", " else "")).length = 0 := by decide +kernel
  have a3 : (Str.ofString (if 0 + 1 > 0 then ", " else "")).length = 2 := by decide +kernel
  have a4 : (Str.ofString "]").length = 1 := by decide +kernel
  omega
theorem XL.part {H : Hp} : ∀ {vs : List V} {ps : List Spec}, XL H vs ps → ∀ (a b : Nat), XL H ((vs.drop a).take b) ((ps.drop a).take b)
  | _, _, .nil, a, b => by simp only [List.drop_nil, List.take_nil]; exact .nil
  | _, _, .cons h t, 0, 0 => .nil
  | _, _, .cons h t, 0, b + 1 => .cons h (XL.part t 0 b)
  | _, _, .cons h t, a + 1, b => XL.part t a b
theorem cut_at {vs : List V} {n lo hi : Nat} {l h : Option Int} (e : vs.length = n) (e1 : HT.sIx n 0 l = lo) (e2 : HT.sIx n n h = hi) : cutV vs l h = (vs.drop lo).take (hi - lo) := by
  unfold cutV
  rw [e, e1, e2]
/-- repr([made.f, made.g]) == repr([one, two]) -/
theorem el2 {K : PySem.W.Frag} {mg : Str → Option Value} {σ : St} {H : Hp} {j i i2 : Nat} {f g : Str} {a C : Addr} {fs : List (Str × V)} {one two : V} (T : XC K C) (no : PySem.W.findIn K (.ref C) f = some none) (no2 : PySem.W.findIn K (.ref C) g = some none) (ej : σ[j]? = some (some (.ref a))) (ei : σ[i]? = some (some one)) (ei2 : σ[i2]? = some (some two))
    (x : IsX H C fs a) (l : fs.lookup f = some one) (l2 : fs.lookup g = some two) (h : Th H one) (h2 : Th H two) {Q : VK} (q : ∀ H2, Same H H2 → Q (.bl true) H2) :
    tOp rEq (tCB rRepr (tCons (tLst (tCons (tXat K f (tVar j)) (tCons (tXat K g (tVar j)) tNil))) tNil)) (tCB rRepr (tCons (tLst (tCons (tVar i) (tCons (tVar i2) tNil))) tNil)) σ H Q := by
  obtain ⟨d, r, s1, s2, s3⟩ := h
  obtain ⟨e, r2, t1, t2, t3⟩ := h2
  have sh : (PyData.list [d, e]).showable = true := by simp [PyData.showable, PyData.showableAll, s1, t1]
  have sl : (PyData.list [d, e]).shown.length ≤ 1000 := Nat.le_trans (shown_two d e) (by omega)
  have sd : (PyData.list [d, e]).depth ≤ 60 := by
    simp only [PyData.depth, PyData.depthAll]
    omega
  refine ⟨_, ej, a, C, fs, one, rfl, T, no, x, l, _, ej, a, C, fs, two, rfl, T, no2, x, l2, by show 2 ≤ sizeLine; decide, fun p hp => ?_⟩
  have sp := same_upd (o := HO.lst [one, two]) hp
  refine ⟨.ref p, _, rfl, .lst upd_same (.cons (r.same sp) (.cons (r2.same sp) .nil)), sh, small sl, sd, ?_⟩
  refine ⟨_, ei, _, ei2, by show 2 ≤ sizeLine; decide, fun p2 hp2 => ?_⟩
  have sp2 := same_upd (o := HO.lst [one, two]) hp2
  exact ⟨.ref p2, _, rfl, .lst upd_same (.cons ((r.same sp).same sp2) (.cons ((r2.same sp).same sp2) .nil)), sh, small sl, sd, eq_self _ (q _ (sp.trans sp2))⟩
theorem XL.mem {H : Hp} : ∀ {vs : List V} {ps : List Spec}, XL H vs ps → ∀ v ∈ vs, ∃ p ∈ ps, ∃ a, v = .ref a ∧ IsX H p.1 p.2 a
  | _, _, .nil, v, hv => absurd hv List.not_mem_nil
  | _, _, .cons h t, v, hv => by
    rcases List.mem_cons.mp hv with rfl | hv
    · exact ⟨_, List.mem_cons_self, h⟩
    · obtain ⟨p, hp, r⟩ := XL.mem t v hv
      exact ⟨p, List.mem_cons_of_mem _ hp, r⟩

/-- an error of one of the classes, which tells v as its f and u as its g -/
def HasG (K : PySem.W.Frag) (f g : Str) (v u : V) (p : Spec) : Prop := ∃ k, k < 33 ∧ p.1 = cA K k ∧ p.2.lookup f = some v ∧ p.2.lookup g = some u
theorem in1 {K : PySem.W.Frag} {mg : Str → Option Value} {σ : St} {H : Hp} {f : Str} {one : V} {xs : List V} {ps : List Spec} (T0 : TX K mg) (hx : XL H xs ps) (hp : ∀ p ∈ ps, HasF K f one p) (hf : f ∈ allF) (h1 : Th H one)
    (ej : ∀ x : V, ((wipe σ [7]).set 7 (some x))[7]? = some (some x)) (ei : ∀ x : V, ((wipe σ [7]).set 7 (some x))[5]? = some (some one)) :
    ∀ x ∈ xs, ∀ H1, Same H H1 → ∀ Q' : VK, (∀ H2, Same H1 H2 → Q' (.bl true) H2) → tOp rEq (tCB rRepr (tCons (tXat K f (tVar 7)) tNil)) (tCB rRepr (tCons (tVar 5) tNil)) ((wipe σ [7]).set 7 (some x)) H1 Q' := by
  intro x hxs H1 s Q' q
  obtain ⟨⟨C, fs⟩, hps, a, rfl, ix⟩ := hx.mem x hxs
  obtain ⟨k, hk, e1, e2⟩ := hp _ hps
  cases e1
  exact el1 (mg := mg) (T0.cl k hk).x ((T0.cl k hk).no f hf) (ej _) (ei _) (ix.same s) e2 (h1.same s) (q H1 (Same.refl H1))
theorem in2 {K : PySem.W.Frag} {mg : Str → Option Value} {σ : St} {H : Hp} {f g : Str} {one two : V} {xs : List V} {ps : List Spec} (T0 : TX K mg) (hx : XL H xs ps) (hp : ∀ p ∈ ps, HasG K f g one two p) (hf : f ∈ allF) (hg : g ∈ allF) (h1 : Th H one) (h2 : Th H two)
    (ej : ∀ x : V, ((wipe σ [7]).set 7 (some x))[7]? = some (some x)) (ei : ∀ x : V, ((wipe σ [7]).set 7 (some x))[5]? = some (some one)) (ei2 : ∀ x : V, ((wipe σ [7]).set 7 (some x))[6]? = some (some two)) :
    ∀ x ∈ xs, ∀ H1, Same H H1 → ∀ Q' : VK, (∀ H2, Same H1 H2 → Q' (.bl true) H2) → tOp rEq (tCB rRepr (tCons (tLst (tCons (tXat K f (tVar 7)) (tCons (tXat K g (tVar 7)) tNil))) tNil)) (tCB rRepr (tCons (tLst (tCons (tVar 5) (tCons (tVar 6) tNil))) tNil)) ((wipe σ [7]).set 7 (some x)) H1 Q' := by
  intro x hxs H1 s Q' q
  obtain ⟨⟨C, fs⟩, hps, a, rfl, ix⟩ := hx.mem x hxs
  obtain ⟨k, hk, e1, e2, e3⟩ := hp _ hps
  cases e1
  exact el2 (mg := mg) (T0.cl k hk).x ((T0.cl k hk).no f hf) ((T0.cl k hk).no g hg) (ej _) (ei _) (ei2 _) (ix.same s) e2 e3 (h1.same s) (h2.same s) q
/-- if not e: return False, e True -/
theorem not_all {te : TE} {u : TS} {D : Ends} {σ : St} {H : Hp} (h : ∀ Q : VK, (∀ H2, Same H H2 → Q (.bl true) H2) → te σ H Q) (q : ∀ H2, Same H H2 → u D σ H2) : tSeq (tIfS (tNot (tB te)) (tRet (tC (.bl false))) tNext) u D σ H :=
  h _ fun H2 s => ⟨true, rfl, show (if (!true) = true then _ else _) from by rw [if_neg (by decide)]; exact q H2 s⟩
theorem list_at {K : PySem.W.Frag} {σ : St} {H : Hp} {i : Nat} {a : Addr} {xs : List V} (ei : σ[i]? = some (some (.ref a))) (h : H a = some (.lst xs)) : ∀ Q' : VK, (∀ l H1, Same H H1 → SqL K H1 l xs → Q' (.ref l) H1) → tVar i σ H Q' :=
  fun _ q => ⟨_, ei, q a H (Same.refl H) (SqL.of h)⟩
theorem part_at {K : PySem.W.Frag} {σ : St} {H : Hp} {i : Nat} {a : Addr} {xs ys : List V} {tl th : TO} {lo hi : Option Int} (ei : σ[i]? = some (some (.ref a))) (h : H a = some (.lst xs)) (e : cutV xs lo hi = ys)
    (hl : ∀ (Q : Option Int → Hp → Prop), Q lo H → tl σ H Q) (hh : ∀ (Q : Option Int → Hp → Prop), Q hi H → th σ H Q) : ∀ Q' : VK, (∀ l H1, Same H H1 → SqL K H1 l ys → Q' (.ref l) H1) → tSl (rSlL K) (tVar i) tl th σ H Q' :=
  fun _ q => ⟨_, ei, hl _ (hh _ ⟨a, xs, rfl, SqL.of h, fun p hp => q p _ (same_upd hp) (SqL.of (by rw [upd_same, e]))⟩)⟩

theorem has_byvalue (K : PySem.W.Frag) (v : V) : ∀ p ∈ ps_byvalue K [v], HasF K "value" v p := by
  simp only [ps_byvalue, List.cons_append, List.nil_append, List.forall_mem_cons]
  exact ⟨⟨0, by decide, rfl, rfl⟩, ⟨0, by decide, rfl, rfl⟩, ⟨1, by decide, rfl, rfl⟩, ⟨1, by decide, rfl, rfl⟩, ⟨2, by decide, rfl, rfl⟩, ⟨2, by decide, rfl, rfl⟩, ⟨3, by decide, rfl, rfl⟩, ⟨3, by decide, rfl, rfl⟩, ⟨4, by decide, rfl, rfl⟩, ⟨4, by decide, rfl, rfl⟩, ⟨5, by decide, rfl, rfl⟩, ⟨5, by decide, rfl, rfl⟩, ⟨6, by decide, rfl, rfl⟩, ⟨6, by decide, rfl, rfl⟩, ⟨7, by decide, rfl, rfl⟩, ⟨7, by decide, rfl, rfl⟩, ⟨8, by decide, rfl, rfl⟩, ⟨8, by decide, rfl, rfl⟩, ⟨9, by decide, rfl, rfl⟩, ⟨9, by decide, rfl, rfl⟩, ⟨10, by decide, rfl, rfl⟩, ⟨10, by decide, rfl, rfl⟩, ⟨11, by decide, rfl, rfl⟩, ⟨11, by decide, rfl, rfl⟩, ⟨12, by decide, rfl, rfl⟩, ⟨12, by decide, rfl, rfl⟩, ⟨13, by decide, rfl, rfl⟩, ⟨13, by decide, rfl, rfl⟩, List.forall_mem_nil _⟩
theorem len_byvalue (K : PySem.W.Frag) (v : V) : (ps_byvalue K [v]).length = 28 := by simp only [ps_byvalue, List.cons_append, List.nil_append] <;> rfl
theorem has_byposition (K : PySem.W.Frag) (v : V) : ∀ p ∈ ps_byposition K [v], HasF K "position" v p := by
  simp only [ps_byposition, List.cons_append, List.nil_append, List.forall_mem_cons]
  exact ⟨⟨14, by decide, rfl, rfl⟩, ⟨14, by decide, rfl, rfl⟩, ⟨15, by decide, rfl, rfl⟩, ⟨15, by decide, rfl, rfl⟩, ⟨16, by decide, rfl, rfl⟩, ⟨16, by decide, rfl, rfl⟩, ⟨17, by decide, rfl, rfl⟩, ⟨17, by decide, rfl, rfl⟩, ⟨18, by decide, rfl, rfl⟩, ⟨18, by decide, rfl, rfl⟩, ⟨19, by decide, rfl, rfl⟩, ⟨19, by decide, rfl, rfl⟩, ⟨20, by decide, rfl, rfl⟩, ⟨20, by decide, rfl, rfl⟩, ⟨21, by decide, rfl, rfl⟩, ⟨21, by decide, rfl, rfl⟩, List.forall_mem_nil _⟩
theorem len_byposition (K : PySem.W.Frag) (v : V) : (ps_byposition K [v]).length = 16 := by simp only [ps_byposition, List.cons_append, List.nil_append] <;> rfl
theorem has_bytwo0 (K : PySem.W.Frag) (one two : V) : ∀ p ∈ ((ps_bytwo K [one, two]).drop 0).take 4, HasF K "key" one p := by
  show ∀ p ∈ ([_, _, _, _] : List K19.Spec), _
  simp only [List.forall_mem_cons]
  exact ⟨⟨22, by decide, rfl, rfl⟩, ⟨22, by decide, rfl, rfl⟩, ⟨23, by decide, rfl, rfl⟩, ⟨23, by decide, rfl, rfl⟩, List.forall_mem_nil _⟩
theorem has_bytwo4 (K : PySem.W.Frag) (one two : V) : ∀ p ∈ ((ps_bytwo K [one, two]).drop 4).take 4, HasG K "part" "position" one two p := by
  show ∀ p ∈ ([_, _, _, _] : List K19.Spec), _
  simp only [List.forall_mem_cons]
  exact ⟨⟨24, by decide, rfl, rfl, rfl⟩, ⟨24, by decide, rfl, rfl, rfl⟩, ⟨25, by decide, rfl, rfl, rfl⟩, ⟨25, by decide, rfl, rfl, rfl⟩, List.forall_mem_nil _⟩
theorem has_bytwo8 (K : PySem.W.Frag) (one two : V) : ∀ p ∈ ((ps_bytwo K [one, two]).drop 8).take 4, HasG K "part" "key" one two p := by
  show ∀ p ∈ ([_, _, _, _] : List K19.Spec), _
  simp only [List.forall_mem_cons]
  exact ⟨⟨26, by decide, rfl, rfl, rfl⟩, ⟨26, by decide, rfl, rfl, rfl⟩, ⟨27, by decide, rfl, rfl, rfl⟩, ⟨27, by decide, rfl, rfl, rfl⟩, List.forall_mem_nil _⟩
theorem has_others0 (K : PySem.W.Frag) (one two : V) : ∀ p ∈ ((ps_others K [one, two]).drop 0).take 2, HasF K "part" one p := by
  show ∀ p ∈ ([_, _] : List K19.Spec), _
  simp only [List.forall_mem_cons]
  exact ⟨⟨28, by decide, rfl, rfl⟩, ⟨28, by decide, rfl, rfl⟩, List.forall_mem_nil _⟩
theorem has_others2 (K : PySem.W.Frag) (one two : V) : ∀ p ∈ ((ps_others K [one, two]).drop 2).take 2, HasF K "line" one p := by
  show ∀ p ∈ ([_, _] : List K19.Spec), _
  simp only [List.forall_mem_cons]
  exact ⟨⟨29, by decide, rfl, rfl⟩, ⟨29, by decide, rfl, rfl⟩, List.forall_mem_nil _⟩
theorem has_others8 (K : PySem.W.Frag) (one two : V) : ∀ p ∈ ((ps_others K [one, two]).drop 8).take 2, HasG K "what" "limit" one two p := by
  show ∀ p ∈ ([_, _] : List K19.Spec), _
  simp only [List.forall_mem_cons]
  exact ⟨⟨32, by decide, rfl, rfl, rfl⟩, ⟨32, by decide, rfl, rfl, rfl⟩, List.forall_mem_nil _⟩
abbrev s_fields : Stmt := top 47
def spFields (K : PySem.W.Frag) : Sp := fun vs H Q _ => ∃ (lv lp l2 lo th : Addr) (uv up u2 uo : List V) (one two : V), vs = [.ref lv, .ref lp, .ref l2, .ref lo, .ref th] ∧ H lv = some (.lst uv) ∧ H lp = some (.lst up) ∧ H l2 = some (.lst u2) ∧ H lo = some (.lst uo) ∧ H th = some (.tup [one, two]) ∧
  XL H uv (ps_byvalue K [one]) ∧ XL H up (ps_byposition K [one]) ∧ XL H u2 (ps_bytwo K [one, two]) ∧ XL H uo (ps_others K [one, two]) ∧ Th H one ∧ Th H two ∧ ∀ H', Same H H' → Q (.bl true) H'

theorem sc_fields : FnScope ["_law_by_value_here", "_law_by_position_here", "_law_by_two_here", "_law_others_here", "_law_things", "_law_one", "_law_two", "_law_made"] ["_law_by_value_here", "_law_by_position_here", "_law_by_two_here", "_law_others_here", "_law_things"] (defScope s_fields) := ⟨rfl, rfl, rfl, by decide +kernel, rfl, by decide +kernel, by decide +kernel⟩
section
variable {P : Program} {w : World} {K : PySem.W.Frag} {mg : Str → Option Value} {base : Heap} {f : Addr} {fd : FuncData}
theorem ok_fields (F : FD K "_law_fields_right" s_fields f fd) (T0 : TX K mg) (T : TF K mg) : FnG P w K mg base CX0 1 f fd ["_law_by_value_here", "_law_by_position_here", "_law_by_two_here", "_law_others_here", "_law_things"] (spFields K) := by
  refine F.okG sc_fields (fun vs H Q E h => ?_) (fun cdv A outer s H vs Q E hg hr h => ?_)
  · obtain ⟨lv, lp, l2, lo, th, uv, up, u2, uo, one, two, rfl, _⟩ := h
    rfl
  obtain ⟨lv, lp, l2, lo, th, uv, up, u2, uo, one, two, rfl, hv, hp, h2, ho, ht, xv, xp, x2, xo, t1, t2, q⟩ := h
  have hG := deeper_guards (env := PyProof.Rows.envOfC "_law_fields_right" (defScope s_fields) s.heap.objs.size f cdv) hg
  have hu := hr.units
  refine ⟨_, PSs.nox (pss_cons (ps_asg (pv 4) (pg_tup (by rfl) (pgs_cons (pg_name (i := 5) sc_fields.nd rfl (Or.inr rfl)) (pgs_cons (pg_name (i := 6) sc_fields.nd rfl (Or.inr rfl)) pgs_nil))))
    (pss_cons (ps_if (pt_not (pt_val (pe_callB (cr_all rfl) (by rfl) T.all boot_all (pa_cons (pe_lc (own := [("_law_made", 7)]) (g := gName 7) (tt := tYes) rfl sc_fields.nd (pi_list (pv 0)) (blkOk_by (N := ["_law_by_value_here", "_law_by_position_here", "_law_by_two_here", "_law_others_here", "_law_things", "_law_one", "_law_two", "_law_made"]) (sc := defScope s_fields) (by decide +kernel)) (fun _ _ _ _ _ => pg_name (i := 7) sc_fields.nd rfl (Or.inl rfl)) (fun _ _ _ _ _ => pts_nil) (fun _ _ _ _ _ => by exact (pe_cmpR op_eq (pe_callB (call_reprD (by exact hG) (by exact hu) (by exact T.mods)) (by rfl) T.repr boot_repr (pa_cons (pe_xat (K := K) (pv 7)) pa_nil)) (pe_callB (call_reprD (by exact hG) (by exact hu) (by exact T.mods)) (by rfl) T.repr boot_repr (pa_cons (pv 5) pa_nil)) (nomark _)))) pa_nil)))) (pss_one (ps_ret pe_bl)) pss_nil)
    (pss_cons (ps_if (pt_not (pt_val (pe_callB (cr_all rfl) (by rfl) T.all boot_all (pa_cons (pe_lc (own := [("_law_made", 7)]) (g := gName 7) (tt := tYes) rfl sc_fields.nd (pi_list (pv 1)) (blkOk_by (N := ["_law_by_value_here", "_law_by_position_here", "_law_by_two_here", "_law_others_here", "_law_things", "_law_one", "_law_two", "_law_made"]) (sc := defScope s_fields) (by decide +kernel)) (fun _ _ _ _ _ => pg_name (i := 7) sc_fields.nd rfl (Or.inl rfl)) (fun _ _ _ _ _ => pts_nil) (fun _ _ _ _ _ => by exact (pe_cmpR op_eq (pe_callB (call_reprD (by exact hG) (by exact hu) (by exact T.mods)) (by rfl) T.repr boot_repr (pa_cons (pe_xat (K := K) (pv 7)) pa_nil)) (pe_callB (call_reprD (by exact hG) (by exact hu) (by exact T.mods)) (by rfl) T.repr boot_repr (pa_cons (pv 5) pa_nil)) (nomark _)))) pa_nil)))) (pss_one (ps_ret pe_bl)) pss_nil)
    (pss_cons (ps_if (pt_not (pt_val (pe_callB (cr_all rfl) (by rfl) T.all boot_all (pa_cons (pe_lc (own := [("_law_made", 7)]) (g := gName 7) (tt := tYes) rfl sc_fields.nd (pi_list (pe_slice sl_list (pv 2) po_none (po_some pe_int))) (blkOk_by (N := ["_law_by_value_here", "_law_by_position_here", "_law_by_two_here", "_law_others_here", "_law_things", "_law_one", "_law_two", "_law_made"]) (sc := defScope s_fields) (by decide +kernel)) (fun _ _ _ _ _ => pg_name (i := 7) sc_fields.nd rfl (Or.inl rfl)) (fun _ _ _ _ _ => pts_nil) (fun _ _ _ _ _ => by exact (pe_cmpR op_eq (pe_callB (call_reprD (by exact hG) (by exact hu) (by exact T.mods)) (by rfl) T.repr boot_repr (pa_cons (pe_xat (K := K) (pv 7)) pa_nil)) (pe_callB (call_reprD (by exact hG) (by exact hu) (by exact T.mods)) (by rfl) T.repr boot_repr (pa_cons (pv 5) pa_nil)) (nomark _)))) pa_nil)))) (pss_one (ps_ret pe_bl)) pss_nil)
    (pss_cons (ps_if (pt_not (pt_val (pe_callB (cr_all rfl) (by rfl) T.all boot_all (pa_cons (pe_lc (own := [("_law_made", 7)]) (g := gName 7) (tt := tYes) rfl sc_fields.nd (pi_list (pe_slice sl_list (pv 2) (po_some pe_int) (po_some pe_int))) (blkOk_by (N := ["_law_by_value_here", "_law_by_position_here", "_law_by_two_here", "_law_others_here", "_law_things", "_law_one", "_law_two", "_law_made"]) (sc := defScope s_fields) (by decide +kernel)) (fun _ _ _ _ _ => pg_name (i := 7) sc_fields.nd rfl (Or.inl rfl)) (fun _ _ _ _ _ => pts_nil) (fun _ _ _ _ _ => by exact (pe_cmpR op_eq (pe_callB (call_reprD (by exact hG) (by exact hu) (by exact T.mods)) (by rfl) T.repr boot_repr (pa_cons (pe_lst (pa_cons (pe_xat (K := K) (pv 7)) (pa_cons (pe_xat (K := K) (pv 7)) pa_nil))) pa_nil)) (pe_callB (call_reprD (by exact hG) (by exact hu) (by exact T.mods)) (by rfl) T.repr boot_repr (pa_cons (pe_lst (pa_cons (pv 5) (pa_cons (pv 6) pa_nil))) pa_nil)) (nomark _)))) pa_nil)))) (pss_one (ps_ret pe_bl)) pss_nil)
    (pss_cons (ps_if (pt_not (pt_val (pe_callB (cr_all rfl) (by rfl) T.all boot_all (pa_cons (pe_lc (own := [("_law_made", 7)]) (g := gName 7) (tt := tYes) rfl sc_fields.nd (pi_list (pe_slice sl_list (pv 2) (po_some pe_int) po_none)) (blkOk_by (N := ["_law_by_value_here", "_law_by_position_here", "_law_by_two_here", "_law_others_here", "_law_things", "_law_one", "_law_two", "_law_made"]) (sc := defScope s_fields) (by decide +kernel)) (fun _ _ _ _ _ => pg_name (i := 7) sc_fields.nd rfl (Or.inl rfl)) (fun _ _ _ _ _ => pts_nil) (fun _ _ _ _ _ => by exact (pe_cmpR op_eq (pe_callB (call_reprD (by exact hG) (by exact hu) (by exact T.mods)) (by rfl) T.repr boot_repr (pa_cons (pe_lst (pa_cons (pe_xat (K := K) (pv 7)) (pa_cons (pe_xat (K := K) (pv 7)) pa_nil))) pa_nil)) (pe_callB (call_reprD (by exact hG) (by exact hu) (by exact T.mods)) (by rfl) T.repr boot_repr (pa_cons (pe_lst (pa_cons (pv 5) (pa_cons (pv 6) pa_nil))) pa_nil)) (nomark _)))) pa_nil)))) (pss_one (ps_ret pe_bl)) pss_nil)
    (pss_cons (ps_if (pt_not (pt_val (pe_callB (cr_all rfl) (by rfl) T.all boot_all (pa_cons (pe_lc (own := [("_law_made", 7)]) (g := gName 7) (tt := tYes) rfl sc_fields.nd (pi_list (pe_slice sl_list (pv 3) po_none (po_some pe_int))) (blkOk_by (N := ["_law_by_value_here", "_law_by_position_here", "_law_by_two_here", "_law_others_here", "_law_things", "_law_one", "_law_two", "_law_made"]) (sc := defScope s_fields) (by decide +kernel)) (fun _ _ _ _ _ => pg_name (i := 7) sc_fields.nd rfl (Or.inl rfl)) (fun _ _ _ _ _ => pts_nil) (fun _ _ _ _ _ => by exact (pe_cmpR op_eq (pe_callB (call_reprD (by exact hG) (by exact hu) (by exact T.mods)) (by rfl) T.repr boot_repr (pa_cons (pe_xat (K := K) (pv 7)) pa_nil)) (pe_callB (call_reprD (by exact hG) (by exact hu) (by exact T.mods)) (by rfl) T.repr boot_repr (pa_cons (pv 5) pa_nil)) (nomark _)))) pa_nil)))) (pss_one (ps_ret pe_bl)) pss_nil)
    (pss_cons (ps_if (pt_not (pt_val (pe_callB (cr_all rfl) (by rfl) T.all boot_all (pa_cons (pe_lc (own := [("_law_made", 7)]) (g := gName 7) (tt := tYes) rfl sc_fields.nd (pi_list (pe_slice sl_list (pv 3) (po_some pe_int) (po_some pe_int))) (blkOk_by (N := ["_law_by_value_here", "_law_by_position_here", "_law_by_two_here", "_law_others_here", "_law_things", "_law_one", "_law_two", "_law_made"]) (sc := defScope s_fields) (by decide +kernel)) (fun _ _ _ _ _ => pg_name (i := 7) sc_fields.nd rfl (Or.inl rfl)) (fun _ _ _ _ _ => pts_nil) (fun _ _ _ _ _ => by exact (pe_cmpR op_eq (pe_callB (call_reprD (by exact hG) (by exact hu) (by exact T.mods)) (by rfl) T.repr boot_repr (pa_cons (pe_xat (K := K) (pv 7)) pa_nil)) (pe_callB (call_reprD (by exact hG) (by exact hu) (by exact T.mods)) (by rfl) T.repr boot_repr (pa_cons (pv 5) pa_nil)) (nomark _)))) pa_nil)))) (pss_one (ps_ret pe_bl)) pss_nil)
    (pss_one (ps_ret (pe_callB (cr_all rfl) (by rfl) T.all boot_all (pa_cons (pe_lc (own := [("_law_made", 7)]) (g := gName 7) (tt := tYes) rfl sc_fields.nd (pi_list (pe_slice sl_list (pv 3) (po_some pe_int) po_none)) (blkOk_by (N := ["_law_by_value_here", "_law_by_position_here", "_law_by_two_here", "_law_others_here", "_law_things", "_law_one", "_law_two", "_law_made"]) (sc := defScope s_fields) (by decide +kernel)) (fun _ _ _ _ _ => pg_name (i := 7) sc_fields.nd rfl (Or.inl rfl)) (fun _ _ _ _ _ => pts_nil) (fun _ _ _ _ _ => by exact (pe_cmpR op_eq (pe_callB (call_reprD (by exact hG) (by exact hu) (by exact T.mods)) (by rfl) T.repr boot_repr (pa_cons (pe_lst (pa_cons (pe_xat (K := K) (pv 7)) (pa_cons (pe_xat (K := K) (pv 7)) pa_nil))) pa_nil)) (pe_callB (call_reprD (by exact hG) (by exact hu) (by exact T.mods)) (by rfl) T.repr boot_repr (pa_cons (pe_lst (pa_cons (pv 5) (pa_cons (pv 6) pa_nil))) pa_nil)) (nomark _)))) pa_nil)))))))))))), ?_⟩
  have ev : ∀ {xs : List V} {n : Nat}, xs.length = n → n ≤ 1000 → xs.length ≤ 1000 := fun e h => by rw [e]; exact h
  have lv := len_byvalue K one
  have lp := len_byposition K one
  have l2n : u2.length = 12 := x2.len
  have lon : uo.length = 10 := xo.len
  refine ⟨_, rfl, th, _, rfl, SqT.of ht, rfl, _, _, rfl, _, _, rfl, rfl, ?_⟩
  have s0 := Same.refl H
  refine not_all (fun Q0 q0 => all_lc (list_at rfl (s0 _ _ hv)) (ev (xv.len.trans lv) (by decide)) (fun _ => rfl) (in1 (mg := mg) T0 (xv.same s0) (has_byvalue K one) (by decide) (t1.same s0) (fun _ => rfl) (fun _ => rfl)) q0) fun H1 r1 => ?_
  have s1 := s0.trans r1
  refine not_all (fun Q0 q0 => all_lc (list_at rfl (s1 _ _ hp)) (ev (xp.len.trans lp) (by decide)) (fun _ => rfl) (in1 (mg := mg) T0 (xp.same s1) (has_byposition K one) (by decide) (t1.same s1) (fun _ => rfl) (fun _ => rfl)) q0) fun H2 r2 => ?_
  have s2 := s1.trans r2
  refine not_all (fun Q0 q0 => all_lc (part_at (i := 2) (lo := none) (hi := some 4) rfl (s2 _ _ h2) (cut_at (lo := 0) (hi := 4) l2n (by rfl) (by rfl)) (fun _ q => q) (fun _ q => ⟨_, rfl, q⟩)) (Nat.le_trans (by rw [List.length_take]; exact Nat.min_le_left _ _) (show 4 ≤ 1000 by decide)) (fun _ => rfl) (in1 (mg := mg) T0 ((x2.same s2).part 0 4) (has_bytwo0 K one two) (by decide) (t1.same s2) (fun _ => rfl) (fun _ => rfl)) q0) fun H3 r3 => ?_
  have s3 := s2.trans r3
  refine not_all (fun Q0 q0 => all_lc (part_at (i := 2) (lo := some 4) (hi := some 8) rfl (s3 _ _ h2) (cut_at (lo := 4) (hi := 8) l2n (by rfl) (by rfl)) (fun _ q => ⟨_, rfl, q⟩) (fun _ q => ⟨_, rfl, q⟩)) (Nat.le_trans (by rw [List.length_take]; exact Nat.min_le_left _ _) (show 4 ≤ 1000 by decide)) (fun _ => rfl) (in2 (mg := mg) T0 ((x2.same s3).part 4 4) (has_bytwo4 K one two) (by decide) (by decide) (t1.same s3) (t2.same s3) (fun _ => rfl) (fun _ => rfl) (fun _ => rfl)) q0) fun H4 r4 => ?_
  have s4 := s3.trans r4
  refine not_all (fun Q0 q0 => all_lc (part_at (i := 2) (lo := some 8) (hi := none) rfl (s4 _ _ h2) (cut_at (lo := 8) (hi := 12) l2n (by rfl) (by rfl)) (fun _ q => ⟨_, rfl, q⟩) (fun _ q => q)) (Nat.le_trans (by rw [List.length_take]; exact Nat.min_le_left _ _) (show 4 ≤ 1000 by decide)) (fun _ => rfl) (in2 (mg := mg) T0 ((x2.same s4).part 8 4) (has_bytwo8 K one two) (by decide) (by decide) (t1.same s4) (t2.same s4) (fun _ => rfl) (fun _ => rfl) (fun _ => rfl)) q0) fun H5 r5 => ?_
  have s5 := s4.trans r5
  refine not_all (fun Q0 q0 => all_lc (part_at (i := 3) (lo := none) (hi := some 2) rfl (s5 _ _ ho) (cut_at (lo := 0) (hi := 2) lon (by rfl) (by rfl)) (fun _ q => q) (fun _ q => ⟨_, rfl, q⟩)) (Nat.le_trans (by rw [List.length_take]; exact Nat.min_le_left _ _) (show 2 ≤ 1000 by decide)) (fun _ => rfl) (in1 (mg := mg) T0 ((xo.same s5).part 0 2) (has_others0 K one two) (by decide) (t1.same s5) (fun _ => rfl) (fun _ => rfl)) q0) fun H6 r6 => ?_
  have s6 := s5.trans r6
  refine not_all (fun Q0 q0 => all_lc (part_at (i := 3) (lo := some 2) (hi := some 4) rfl (s6 _ _ ho) (cut_at (lo := 2) (hi := 4) lon (by rfl) (by rfl)) (fun _ q => ⟨_, rfl, q⟩) (fun _ q => ⟨_, rfl, q⟩)) (Nat.le_trans (by rw [List.length_take]; exact Nat.min_le_left _ _) (show 2 ≤ 1000 by decide)) (fun _ => rfl) (in1 (mg := mg) T0 ((xo.same s6).part 2 2) (has_others2 K one two) (by decide) (t1.same s6) (fun _ => rfl) (fun _ => rfl)) q0) fun H7 r7 => ?_
  have s7 := s6.trans r7
  exact all_lc (part_at (i := 3) (lo := some 8) (hi := none) rfl (s7 _ _ ho) (cut_at (lo := 8) (hi := 10) lon (by rfl) (by rfl)) (fun _ q => ⟨_, rfl, q⟩) (fun _ q => q)) (Nat.le_trans (by rw [List.length_take]; exact Nat.min_le_left _ _) (show 2 ≤ 1000 by decide)) (fun _ => rfl) (in2 (mg := mg) T0 ((xo.same s7).part 8 2) (has_others8 K one two) (by decide) (by decide) (t1.same s7) (t2.same s7) (fun _ => rfl) (fun _ => rfl) (fun _ => rfl)) (fun H9 s9 => q H9 (s7.trans s9))
end
end K19

end PK19f
section PK19g
set_option maxHeartbeats 4000000
namespace K19
open PySem L2
abbrev s_raised : Stmt := top 48
theorem same_over {H H' : Hp} {l : Addr} {o : HO} (s : Same H H') (h : H l = none) : Same H (upd H' l o) := fun b u e => by
  rw [upd_ne (ne_of_none e h)]
  exact s _ _ e
theorem xr1 {K : PySem.W.Frag} {σ : St} {H : Hp} {i : Nat} {C : Addr} {f : Str} {y : V} (T : XC K C) (no : PySem.W.findIn K (.ref C) f = some none) (h : σ[i]? = some (some y)) {Q : XK}
    (q : ∀ dx H2, Same H H2 → H2 dx = some (.xd [(f, y)]) → Q (.ref C) (some dx) H2) : tXr C 1 (spI1 K f) (fun us _ => us) (tCons (tVar i) tNil) σ H Q :=
  ⟨y, h, rfl, fun a ha => ⟨a, C, y, rfl, T, no, upd_same, fun dx hd ne => by
    have hx : H dx = none := by rw [← hd, upd_ne ne]
    refine ⟨rfl, dx, _, upd_same, by rw [upd_ne ne, upd_same], hx, q dx _ (fun b o e => ?_) upd_same⟩
    have hb : b ≠ a := ne_of_none e ha
    have hc : b ≠ dx := ne_of_none e hx
    rw [upd_ne hc, del_ne hb, upd_ne hb, upd_ne hc, upd_ne hb]
    exact e⟩⟩
theorem xr2 {K : PySem.W.Frag} {σ : St} {H : Hp} {i j : Nat} {C : Addr} {f g : Str} {y z : V} (T : XC K C) (no : PySem.W.findIn K (.ref C) f = some none) (no2 : PySem.W.findIn K (.ref C) g = some none) (h : σ[i]? = some (some y)) (h2 : σ[j]? = some (some z)) {Q : XK}
    (q : ∀ dx H2, Same H H2 → H2 dx = some (.xd [(g, z), (f, y)]) → Q (.ref C) (some dx) H2) : tXr C 2 (spI2 K f g) (fun us _ => us) (tCons (tVar i) (tCons (tVar j) tNil)) σ H Q :=
  ⟨y, h, z, h2, rfl, fun a ha => ⟨a, C, y, z, rfl, T, no, no2, upd_same, fun dx hd ne => by
    have hx : H dx = none := by rw [← hd, upd_ne ne]
    refine ⟨rfl, dx, _, by rw [upd_ne (Ne.symm ne), upd_same], upd_same, hx, q dx _ (fun b o e => ?_) upd_same⟩
    have hb : b ≠ a := ne_of_none e ha
    have hc : b ≠ dx := ne_of_none e hx
    rw [upd_ne hc, del_ne hb, upd_ne hc, upd_ne hb, upd_ne hc, upd_ne hb]
    exact e⟩⟩
structure TR (K : PySem.W.Frag) (mg : Str → Option Value) : Prop where
  e0 : PySem.W.exmOne K (.ref (cA K 26)) (.ref (He.ga K "KeptError")) = some true
  e1 : PySem.W.exmOne K (.ref (cA K 12)) (.ref (cA K 12)) = some true
  e2 : PySem.W.exmOne K (.ref (cA K 32)) (.ref (cA K 32)) = some true
def spRaised (K : PySem.W.Frag) : Sp := fun vs H Q _ => ∃ (one two : V), vs = [one, two] ∧ Th H one ∧ Th H two ∧ ∀ H', Same H H' → Q (.bl true) H'
theorem sc_raised : FnScope ["_law_one", "_law_two", "_law_found", "e"] ["_law_one", "_law_two"] (defScope s_raised) := ⟨rfl, rfl, rfl, by decide +kernel, rfl, by decide +kernel, by decide +kernel⟩
/-- found.append(b) -/
abbrev tAdd (K : PySem.W.Frag) (te : TE) : TS := tDrop (tBM K "list" rAppend (tVar 2) (tCons te tNil))
theorem add_b {K : PySem.W.Frag} {D : Ends} {σ : St} {H : Hp} {l : Addr} {bs : List V} {te : TE} (e : σ[2]? = some (some (.ref l))) (h : H l = some (.lst bs)) (hl : bs.length ≤ 10) (ht : ∀ Q : VK, Q (.bl true) H → te σ H Q)
    (q : D.nx σ (upd H l (.lst (bs ++ [.bl true])))) : tAdd K te D σ H :=
  ⟨_, e, Or.inl ⟨rfl, _, SqL.of h⟩, ht _ ⟨l, bs, _, rfl, rfl, h, Nat.lt_of_le_of_lt hl (by decide), q⟩⟩
section
variable {P : Program} {w : World} {K : PySem.W.Frag} {mg : Str → Option Value} {base : Heap} {f : Addr} {fd : FuncData}
theorem ok_raised (F : FD K "_law_raised" s_raised f fd) (T0 : TX K mg) (T : TF K mg) (U : TI K mg) (R : TR K mg) : FnG P w K mg base CX0 3 f fd ["_law_one", "_law_two"] (spRaised K) := by
  refine F.okG sc_raised (fun vs H Q E h => ?_) (fun cdv A outer s H vs Q E hg hr h => ?_)
  · obtain ⟨one, two, rfl, _⟩ := h
    rfl
  obtain ⟨one, two, rfl, h1, h2, q⟩ := h
  have hG := deeper_guards (env := PyProof.Rows.envOfC "_law_raised" (defScope s_raised) s.heap.objs.size f cdv) hg
  have hu := hr.units
  have hr2 : Room 2 _ := hr
  obtain ⟨fd12, F12⟩ := T0.i12
  obtain ⟨fd26, F26⟩ := T0.i26
  obtain ⟨fd32, F32⟩ := T0.i32
  refine ⟨_, pss_cons (ps_set (i := 2) sc_raised.nd rfl (Or.inl rfl) (pe_lst pa_nil))
    (pss_cons (ps_try_as (i := 3) (n := "e") (c := .ref (He.ga K "KeptError")) (ts := fun a cls d => tAdd K (tCB (rIsF K a cls d) (tCons (tVar 3) (tCons (tC (.ref (cA K 26))) tNil)))) rfl rfl sc_raised.nd rfl (by rfl) ⟨by rfl, by decide, Or.inl U.gK⟩ takes_no
        (fun W pn xe tk ho => pss_one (ps_raise rfl tk (pmk_xe (T0.cl 26 (by decide)).x (T0.cl 26 (by decide)).i (T0.cl 26 (by decide)).t (okI26 F26) hr2 (bP26 F26) pass0 (by decide) rfl (T0.cl 26 (by decide)).g (pa_cons (pv 0) (pa_cons (pv 1) pa_nil)))))
        (fun a oe cls d pn hz hf => pss_one (ps_expr (pe_bm PySem.F.plainAttrs_list PySem.F.slot_list_append PySem.F.type_list_append mt_append (pv 2) (pa_cons (pe_callB (call_isF hz hf) (by rfl) T0.isi boot_isi (pa_cons (pv 3) (pa_cons (pe_glob (v := .ref (cA K 26)) rfl (T0.cl 26 (by decide)).g rfl) pa_nil))) pa_nil)))))
    (pss_cons (ps_try_as (i := 3) (n := "e") (c := .ref (cA K 12)) (ts := fun a cls d => tAdd K (tOp rEq (tCB rRepr (tCons (tXf a cls d (cA K 12) "value" (tVar 3)) tNil)) (tCB rRepr (tCons (tVar 0) tNil)))) rfl rfl sc_raised.nd rfl (by rfl) ⟨by rfl, by decide, Or.inl (T0.cl 12 (by decide)).g⟩ takes_no
        (fun W pn xe tk ho => pss_one (ps_raise rfl tk (pmk_xe (T0.cl 12 (by decide)).x (T0.cl 12 (by decide)).i (T0.cl 12 (by decide)).t (okI12 F12) hr2 (bP12 F12) pass0 (by decide) rfl (T0.cl 12 (by decide)).g (pa_cons (pv 0) pa_nil))))
        (fun a oe cls d pn hz hf => pss_one (ps_expr (pe_bm PySem.F.plainAttrs_list PySem.F.slot_list_append PySem.F.type_list_append mt_append (pv 2) (pa_cons (pe_cmpR op_eq (pe_callB (call_reprD (by exact hG) (by exact hu) (by exact T.mods)) (by rfl) T.repr boot_repr (pa_cons (pe_xf (T0.cl 12 (by decide)).x.xf ((T0.cl 12 (by decide)).no _ (by decide)) hz hf (pv 3)) pa_nil)) (pe_callB (call_reprD (by exact hG) (by exact hu) (by exact T.mods)) (by rfl) T.repr boot_repr (pa_cons (pv 0) pa_nil)) (nomark _)) pa_nil)))))
    (pss_cons (ps_try_as (i := 3) (n := "e") (c := .ref (cA K 32)) (ts := fun a cls d => tAdd K (tOp rEq (tCB rRepr (tCons (tXf a cls d (cA K 32) "limit" (tVar 3)) tNil)) (tCB rRepr (tCons (tVar 1) tNil)))) rfl rfl sc_raised.nd rfl (by rfl) ⟨by rfl, by decide, Or.inl (T0.cl 32 (by decide)).g⟩ takes_no
        (fun W pn xe tk ho => pss_one (ps_raise rfl tk (pmk_xe (T0.cl 32 (by decide)).x (T0.cl 32 (by decide)).i (T0.cl 32 (by decide)).t (okI32 F32) hr2 (bP32 F32) pass0 (by decide) rfl (T0.cl 32 (by decide)).g (pa_cons (pv 0) (pa_cons (pv 1) pa_nil)))))
        (fun a oe cls d pn hz hf => pss_one (ps_expr (pe_bm PySem.F.plainAttrs_list PySem.F.slot_list_append PySem.F.type_list_append mt_append (pv 2) (pa_cons (pe_cmpR op_eq (pe_callB (call_reprD (by exact hG) (by exact hu) (by exact T.mods)) (by rfl) T.repr boot_repr (pa_cons (pe_xf (T0.cl 32 (by decide)).x.xf ((T0.cl 32 (by decide)).no _ (by decide)) hz hf (pv 3)) pa_nil)) (pe_callB (call_reprD (by exact hG) (by exact hu) (by exact T.mods)) (by rfl) T.repr boot_repr (pa_cons (pv 1) pa_nil)) (nomark _)) pa_nil)))))
    (pss_one (ps_ret (pe_cmpR (op_eqD (by exact hu)) (pv 2) (pe_lst (pa_cons pe_bl (pa_cons pe_bl (pa_cons pe_bl pa_nil)))) (nomark _))))))), ?_⟩
  refine ⟨Nat.zero_le _, fun l hl => ?_⟩
  show tXr (cA K 26) 2 (spI2 K "part" "key") (fun us _ => us) (tCons (tVar 0) (tCons (tVar 1) tNil)) [some one, some two, some (.ref l), none] _ (fun cls d H' => wAs K (.ref (He.ga K "KeptError")) 3 _ _ _ cls d [some one, some two, some (.ref l), none] H')
  refine xr2 (T0.cl 26 (by decide)).x ((T0.cl 26 (by decide)).no "part" (by decide)) ((T0.cl 26 (by decide)).no "key" (by decide)) rfl rfl fun d1 H1 s1 x1 => ⟨true, R.e0, fun _ a1 n1 => ?_, fun z => nomatch z⟩
  have l1 := s1 _ _ (upd_same (H := H) (a := l) (o := HO.lst []))
  refine add_b rfl l1 (by decide) (fun Q' q' => ⟨_, rfl, _, _, _, _, _, _, rfl, .own _, (T0.cl 26 (by decide)).x, rfl, rfl, x1, U.kit 26 26 (by decide) (by decide), q'⟩) ?_
  have S1 : Same H (upd H1 l (.lst [.bl true])) := same_over ((same_upd hl).trans s1) hl
  show tXr (cA K 12) 1 (spI1 K "value") (fun us _ => us) (tCons (tVar 0) tNil) [some one, some two, some (.ref l), none] _ (fun cls d H' => wAs K (.ref (cA K 12)) 3 _ _ _ cls d [some one, some two, some (.ref l), none] H')
  refine xr1 (T0.cl 12 (by decide)).x ((T0.cl 12 (by decide)).no "value" (by decide)) rfl fun d2 H2 s2 x2 => ⟨true, R.e1, fun _ a2 n2 => ?_, fun z => nomatch z⟩
  have l2 := s2 _ _ upd_same
  have S2 := S1.trans s2
  obtain ⟨dd, r, z1, z2, z3⟩ := h1.same S2
  refine add_b rfl l2 (by decide) (fun Q' q' => ⟨_, rfl, rfl, rfl, d2, _, one, rfl, x2, rfl, one, dd, rfl, r, z1, small (by omega), by omega, _, rfl, one, dd, rfl, r, z1, small (by omega), by omega, eq_self _ q'⟩) ?_
  have S3 : Same H (upd H2 l (.lst [.bl true, .bl true])) := same_over S2 hl
  show tXr (cA K 32) 2 (spI2 K "what" "limit") (fun us _ => us) (tCons (tVar 0) (tCons (tVar 1) tNil)) [some one, some two, some (.ref l), none] _ (fun cls d H' => wAs K (.ref (cA K 32)) 3 _ _ _ cls d [some one, some two, some (.ref l), none] H')
  refine xr2 (T0.cl 32 (by decide)).x ((T0.cl 32 (by decide)).no "what" (by decide)) ((T0.cl 32 (by decide)).no "limit" (by decide)) rfl rfl fun d3 H3 s3 x3 => ⟨true, R.e2, fun _ a3 n3 => ?_, fun z => nomatch z⟩
  have l3 := s3 _ _ upd_same
  have S4 := S3.trans s3
  obtain ⟨de, re, y1, y2, y3⟩ := h2.same S4
  refine add_b rfl l3 (by decide) (fun Q' q' => ⟨_, rfl, rfl, rfl, d3, _, two, rfl, x3, rfl, two, de, rfl, re, y1, small (by omega), by omega, _, rfl, two, de, rfl, re, y1, small (by omega), by omega, eq_self _ q'⟩) ?_
  have S5 : Same H (upd H3 l (.lst [.bl true, .bl true, .bl true])) := same_over S4 hl
  refine ⟨_, rfl, by show 3 ≤ sizeLine; decide, fun m hm => ?_⟩
  have sm := same_upd (o := HO.lst [V.bl true, V.bl true, V.bl true]) hm
  refine ⟨_, _, dp_list (bs := [true, true, true]) (sm _ _ upd_same), dp_list (bs := [true, true, true]) upd_same, by decide, by decide, ?_⟩
  exact q _ (S5.trans sm)
end
end K19

end PK19g
section PK19h
set_option maxHeartbeats 4000000
namespace K19
open PySem L2
/-- the def called x keeps sp -/
structure Kn (P : Program) (w : World) (K : PySem.W.Frag) (mg : Str → Option Value) (base : Heap) (k : Nat) (x : Str) (fa : Addr) (fd : FuncData) (ps : List Str) (sp : Sp) : Prop where
  f : FnOk P w K mg base CX0 k fa fd ps sp
  b : Binds K fd ps []
  m : mg x = some (.ref fa)
  k : PySem.W.keepIn K (.ref fa) = true
structure KnG (P : Program) (w : World) (K : PySem.W.Frag) (mg : Str → Option Value) (base : Heap) (k : Nat) (x : Str) (fa : Addr) (fd : FuncData) (ps : List Str) (sp : Sp) : Prop where
  f : FnG P w K mg base CX0 k fa fd ps sp
  b : Binds K fd ps []
  m : mg x = some (.ref fa)
  k : PySem.W.keepIn K (.ref fa) = true
abbrev s_right : Stmt := top 49
def spRight : Sp := fun vs H Q _ => ∃ (p : Addr), vs = [.ref p] ∧ PotAt H p ∧ ∀ H', Bt p H H' → Q (.bl true) H'
abbrev nRight : List Str := ["_law_pot_here", "_law_one", "_law_two", "_law_three", "_law_by_value_here", "_law_by_position_here", "_law_by_two_here", "_law_others_here", "_law_made", "_law_at", "_law_error", "_law_due", "_law_after", "_law_turn", "_law_place"]
theorem sc_right : FnScope nRight ["_law_pot_here"] (defScope s_right) := ⟨rfl, rfl, rfl, by decide +kernel, rfl, by decide +kernel, by decide +kernel⟩
theorem boot_len : bootBuiltins "len" = some (.builtin "len") := by decide +kernel
structure TT0 (mg : Str → Option Value) : Prop where
  rng : mg "range" = none
  enu : mg "enumerate" = none
  len : mg "len" = none
/-- [_law_thing(pot) for turn in range(3)] -/
theorem things_lc {σ : St} {H : Hp} {Q : VK} {E : XK} {p : Addr} (hw : ∀ x : V, wipe ((wipe σ [13]).set 13 (some x)) [13] = wipe σ [13]) (e0 : ∀ x : V, ((wipe σ [13]).set 13 (some x))[0]? = some (some (.ref p))) (hp : PotAt H p)
    (q : ∀ l a b c H', H' l = some (.lst [a, b, c]) → l ≠ p → Th (hid p H') a → Th (hid p H') b → Th (hid p H') c → Bt p H H' → PotAt H' p → Q (.ref l) H') :
    tLc (iRng1 (tCons (tC (.int 3)) tNil)) (gName 13) tYes (tCall spThing [] E (tCons (tVar 0) tNil)) [13] σ H Q := by
  refine ⟨3, rfl, by decide, by decide, fun D hD => ?_⟩
  have nDp := pot_ne hp hD
  refine lc_range (lo := 0) (n := 3) (fun i H' => ∃ acc : List V, acc.length = i ∧ H' D = some (.lst acc) ∧ (∀ v ∈ acc, Th (hid p (hid D H')) v) ∧ Bt p H H' ∧ PotAt H' p)
    ⟨[], rfl, upd_same, fun v h => absurd h List.not_mem_nil, Same.bt (same_upd hD), hp.bt (same_upd hD)⟩ (fun i H1 hi ⟨acc, ha, hD1, hv, hb, hp1⟩ => ?_) fun H1 ⟨acc, ha, hD1, hv, hb, hp1⟩ => ?_
  · refine ⟨hw _, ?_⟩
    refine iteT (A := tCall spThing [] E (tCons (tVar 0) tNil) ((wipe σ [13]).set 13 (some (.int (0 + (i : Int))))) H1 _) (B := ∃ acc : List V, acc.length = i + 1 ∧ H1 D = some (.lst acc) ∧ (∀ v ∈ acc, Th (hid p (hid D H1)) v) ∧ Bt p H H1 ∧ PotAt H1 p) ?_
    refine ⟨_, e0 _, p, rfl, hp1, fun v H2 tv hb2 hp2 => ⟨acc, hb2 _ _ nDp hD1, by rw [ha]; exact Nat.lt_trans hi (by decide), acc ++ [v], by simp [ha], upd_same, fun u hu => ?_, fun b o n e => ?_, ?_⟩⟩
    · have s1 : Same (hid p (hid D H1)) (hid p (hid D (upd H2 D (.lst (acc ++ [v]))))) := fun b o e => by
        unfold hid at e ⊢
        by_cases h1 : b = p
        · rw [if_pos h1] at e
          cases e
        · rw [if_neg h1] at e ⊢
          by_cases h2 : b = D
          · rw [if_pos h2] at e
            cases e
          · rw [if_neg h2] at e ⊢
            rw [upd_ne h2]
            exact hb2 b o h1 e
      have s2 : Same (newIn H1 H2) (hid p (hid D (upd H2 D (.lst (acc ++ [v]))))) := fun b o e => by
        unfold newIn at e
        cases z : H1 b with
        | some u =>
          rw [z] at e
          cases e
        | none =>
          rw [z] at e
          have h1 : b ≠ p := pot_ne hp1 z
          have h2 : b ≠ D := fun h => by
            rw [h, hD1] at z
            cases z
          unfold hid
          rw [if_neg h1, if_neg h2, upd_ne h2]
          exact e
      rcases List.mem_append.mp hu with h | h
      · exact (hv u h).same s1
      · rw [List.mem_singleton.mp h]
        exact tv.same s2
    · by_cases h : b = D
      · rw [h] at e
        rw [hD] at e
        cases e
      · rw [upd_ne h]
        exact hb2 b o n (hb b o n e)
    · obtain ⟨x, y, z, r⟩ := hp2
      exact ⟨x, y, by rw [upd_ne (Ne.symm nDp)]; exact z, r⟩
  · match acc, ha, hD1, hv with
    | [a, b, c], _, hD1, hv =>
      have sD : Same (hid p (hid D H1)) (hid p H1) := fun b o e => by
        unfold hid at e ⊢
        by_cases h1 : b = p
        · rw [if_pos h1] at e
          cases e
        · rw [if_neg h1] at e ⊢
          by_cases h2 : b = D
          · rw [if_pos h2] at e
            cases e
          · rw [if_neg h2] at e
            exact e
      exact q D a b c H1 hD1 nDp ((hv a (by simp)).same sD) ((hv b (by simp)).same sD) ((hv c (by simp)).same sD) hb hp1
/-- [place == at // 2 for place in range(33)] -/
theorem due_lc {σ : St} {H : Hp} {Q : VK} {n : Nat} (hw : ∀ x : V, wipe ((wipe σ [14]).set 14 (some x)) [14] = wipe σ [14]) (e0 : ∀ x : V, ((wipe σ [14]).set 14 (some x))[9]? = some (some (.int (n : Int)))) (e1 : ∀ x : V, ((wipe σ [14]).set 14 (some x))[14]? = some (some x)) (hn : n < 66)
    (q : ∀ l H', Same H H' → H' l = some (.lst ((marksB ((n / 2 : Nat) : Int)).map V.bl)) → Q (.ref l) H') :
    tLc (iRng1 (tCons (tC (.int 33)) tNil)) (gName 14) tYes (tOp rEq (tVar 14) (tOp (rI CDiv fun i j => .int (i / j)) (tVar 9) (tC (.int 2)))) [14] σ H Q := by
  refine ⟨33, rfl, by decide, by decide, fun D hD => ?_⟩
  refine lc_range (lo := 0) (n := 33) (fun i H' => Same H H' ∧ H' D = some (.lst ((List.range i).map fun (m : Nat) => V.bl (decide (((m : Nat) : Int) = ((n / 2 : Nat) : Int))))))
    ⟨same_upd hD, upd_same⟩ (fun i H1 hi ⟨s1, hD1⟩ => ?_) fun H1 ⟨s1, hD1⟩ => ?_
  · refine ⟨hw _, ?_⟩
    refine iteT (A := tOp rEq (tVar 14) (tOp (rI CDiv fun i j => .int (i / j)) (tVar 9) (tC (.int 2))) ((wipe σ [14]).set 14 (some (.int (0 + (i : Int))))) H1 _) (B := Same H H1 ∧ H1 D = some (.lst ((List.range (i + 1)).map fun (m : Nat) => V.bl (decide (((m : Nat) : Int) = ((n / 2 : Nat) : Int)))))) ?_
    have ef : decide (V.int (0 + (i : Int)) = V.int ((n : Int) / 2)) = decide ((i : Int) = ((n / 2 : Nat) : Int)) := decide_eq_decide.mpr ⟨fun h => by
      have z := V.int.inj h
      omega, fun h => congrArg V.int (by omega)⟩
    refine ⟨_, e1 _, _, e0 _, _, _, rfl, rfl, ⟨by decide, by decide⟩, rfl, ?_⟩
    refine ⟨_, hD1, by rw [List.length_map, List.length_range]; exact Nat.lt_trans hi (by decide), same_over s1 hD, ?_⟩
    rw [upd_same, List.range_succ, List.map_append, ef]
    rfl
  · refine q D H1 s1 ?_
    rw [hD1]
    rfl
/-! ### what the loop asks -/
def psAll (K : PySem.W.Frag) (a b : V) : List K19.Spec := ((ps_byvalue K [a] ++ ps_byposition K [a]) ++ ps_bytwo K [a, b]) ++ ps_others K [a, b]
theorem psAll_cls (K : PySem.W.Frag) (a b : V) : (psAll K a b).map (·.1) = (List.range 66).map fun i => cA K (i / 2) := by rfl
theorem psAll_at {K : PySem.W.Frag} {a b : V} {i : Nat} {p : K19.Spec} (h : (psAll K a b)[i]? = some p) : i < 66 ∧ p.1 = cA K (i / 2) := by
  have e := congrArg (fun l => l[i]?) (psAll_cls K a b)
  simp only [List.getElem?_map, h, Option.map_some] at e
  by_cases hi : i < 66
  · rw [List.getElem?_range hi] at e
    exact ⟨hi, Option.some.inj e⟩
  · rw [List.getElem?_eq_none (by rw [List.length_range]; omega)] at e
    cases e
theorem XL.get {H : Hp} : ∀ {vs : List V} {ps : List K19.Spec}, XL H vs ps → ∀ {i : Nat} {x : V}, vs[i]? = some x → ∃ p a, ps[i]? = some p ∧ x = .ref a ∧ IsX H p.1 p.2 a
  | _, _, .cons ⟨a, e, h⟩ t, 0, x, hx => by
    cases hx
    exact ⟨_, a, rfl, e, h⟩
  | _, _, .cons h t, i + 1, x, hx => XL.get t hx
theorem tor {t u : TT} {σ : St} {H : Hp} {Q : Bool → Hp → Prop} (ht : ∀ Q : Bool → Hp → Prop, (∀ H1, Same H H1 → Q false H1) → t σ H Q) (hu : ∀ H1, Same H H1 → u σ H1 Q) : tOr t u σ H Q :=
  ht _ fun H1 s => show (if false = true then _ else _) from by rw [if_neg (by decide)]; exact hu H1 s
theorem if_no {c : TT} {t u : TS} {D : Ends} {σ : St} {H : Hp} (h : ∀ Q : Bool → Hp → Prop, (∀ H1, Same H H1 → Q false H1) → c σ H Q) (q : ∀ H1, Same H H1 → u D σ H1) : tIfS c t u D σ H :=
  h _ fun H1 s => show (if false = true then _ else _) from by rw [if_neg (by decide)]; exact q H1 s
theorem marks_at {K : PySem.W.Frag} {E : XK} {σ : St} {H : Hp} {a l : Addr} {k : Nat} {fs : List (Str × V)} (ei : σ[10]? = some (some (.ref a))) (el : σ[11]? = some (some (.ref l))) (hk : k < 33) (x : IsX H (cA K k) fs a) (hl : H l = some (.lst ((marksB (k : Int)).map V.bl))) :
    ∀ Q : Bool → Hp → Prop, (∀ H1, Same H H1 → Q false H1) → tTest (tOp (rNeD K) (tCall (spMarks K) [] E (tCons (tVar 10) tNil)) (tVar 11)) σ H Q := fun Q q =>
  ⟨_, ei, a, k, fs, rfl, hk, x, fun l2 H2 s2 h2 => ⟨_, el, _, _, dp_list h2, dp_list (s2 _ _ hl), by rfl, by rfl, false, congrArg V.bl (by
    have e : PyData.eqv (.list ((marksB (k : Int)).map PyData.bool)) (.list ((marksB (k : Int)).map PyData.bool)) = true := eqv_bools _
    rw [e]
    rfl), q H2 s2⟩⟩
theorem base_at {K : PySem.W.Frag} {E : XK} {σ : St} {H : Hp} {a : Addr} {i : Nat} {fs : List (Str × V)} (e9 : σ[9]? = some (some (.int (i : Int)))) (ei : σ[10]? = some (some (.ref a))) (hk : i / 2 < 33) (x : IsX H (cA K (i / 2)) fs a) :
    ∀ Q : Bool → Hp → Prop, (∀ H1, Same H H1 → Q false H1) → tNot (tB (tCall (spBase K) [] E (tCons (tVar 10) (tCons (tOp (rI CDiv fun i j => .int (i / j)) (tVar 9) (tC (.int 2))) tNil)))) σ H Q := fun Q q =>
  ⟨_, ei, _, e9, _, _, rfl, rfl, ⟨by decide, by decide⟩, a, i / 2, fs, by
    have e : ((i : Int) / 2) = ((i / 2 : Nat) : Int) := by omega
    exact congrArg (fun z => [V.ref a, V.int z]) e, hk, x, fun H2 s2 => ⟨true, rfl, q H2 s2⟩⟩
theorem caught_at {K : PySem.W.Frag} {E : XK} {σ : St} {H : Hp} {a : Addr} {k : Nat} {fs : List (Str × V)} (ei : σ[10]? = some (some (.ref a))) (hk : k < 33) (x : IsX H (cA K k) fs a) :
    ∀ Q : Bool → Hp → Prop, (∀ H1, Same H H1 → Q false H1) → tNot (tB (tCall (spCaught K) [] E (tCons (tVar 10) tNil))) σ H Q := fun Q q =>
  ⟨_, ei, a, k, fs, rfl, hk, x, fun H2 s2 => ⟨true, rfl, q H2 s2⟩⟩
theorem seq_asg {te : TE} {g : TG} {u : TS} {D : Ends} {σ : St} {H : Hp} (h : te σ H fun x H1 => g x σ H1 (u D)) : tSeq (tAsg te g) u D σ H := h
theorem len_ne {K : PySem.W.Frag} {σ : St} {H : Hp} {l m : Addr} {xs ys : List V} (e1 : σ[12]? = some (some (.ref l))) (e2 : σ[8]? = some (some (.ref m))) (h1 : H l = some (.lst xs)) (h2 : H m = some (.lst ys)) (e : xs.length = ys.length) :
    ∀ Q : Bool → Hp → Prop, (∀ H1, Same H H1 → Q false H1) → tTest (tOp rNe (tCB (fun xs H Q => ∃ p ys, xs = [V.ref p] ∧ (SqL K H p ys ∨ SqT K H p ys) ∧ Q (.int ys.length) H) (tCons (tVar 12) tNil)) (tCB (fun xs H Q => ∃ p ys, xs = [V.ref p] ∧ (SqL K H p ys ∨ SqT K H p ys) ∧ Q (.int ys.length) H) (tCons (tVar 8) tNil))) σ H Q := fun Q q =>
  ⟨_, e1, _, _, rfl, .inl (SqL.of h1), _, e2, _, _, rfl, .inl (SqL.of h2), rfl, false, by rw [e, decide_eq_true rfl]; rfl, q H (Same.refl H)⟩
section
variable {P : Program} {w : World} {K : PySem.W.Frag} {mg : Str → Option Value} {base : Heap} {f fTH fBV fBP fBT fOT fMA fBA fCA fRA fFR : Addr} {fd dTH dBV dBP dBT dOT dMA dBA dCA dRA dFR : FuncData}
theorem ok_right (F : FD K "_law_right" s_right f fd) (T : TT0 mg) (TH : Kn P w K mg base 3 "_law_thing" fTH dTH ["_law_pot_here"] (spThing)) (BV : Kn P w K mg base 3 "_law_by_value" fBV dBV ["_law_one"] (spMk 1 (ps_byvalue K))) (BP : Kn P w K mg base 3 "_law_by_position" fBP dBP ["_law_one"] (spMk 1 (ps_byposition K))) (BT : Kn P w K mg base 3 "_law_by_two" fBT dBT ["_law_one", "_law_two"] (spMk 2 (ps_bytwo K))) (OT : Kn P w K mg base 3 "_law_others" fOT dOT ["_law_one", "_law_two"] (spMk 2 (ps_others K))) (MA : Kn P w K mg base 1 "_law_marks" fMA dMA ["_law_made"] (spMarks K)) (BA : Kn P w K mg base 1 "_law_base_right" fBA dBA ["_law_made", "_law_place"] (spBase K)) (CA : Kn P w K mg base 1 "_law_caught" fCA dCA ["_law_made"] (spCaught K)) (RA : KnG P w K mg base 3 "_law_raised" fRA dRA ["_law_one", "_law_two"] (spRaised K)) (FR : KnG P w K mg base 1 "_law_fields_right" fFR dFR ["_law_by_value_here", "_law_by_position_here", "_law_by_two_here", "_law_others_here", "_law_things"] (spFields K)) :
    FnG P w K mg base CX0 4 f fd ["_law_pot_here"] spRight := by
  refine F.okG sc_right (fun vs H Q E h => ?_) (fun cdv A outer s H vs Q E hg hr h => ?_)
  · obtain ⟨p, rfl, _⟩ := h
    rfl
  obtain ⟨p, rfl, hP, q⟩ := h
  have hG := deeper_guards (env := PyProof.Rows.envOfC "_law_right" (defScope s_right) s.heap.objs.size f cdv) hg
  have hu := hr.units
  refine ⟨_, PSs.nox (pss_cons (ps_asg (pe_lc (own := [("_law_turn", 13)]) (g := gName 13) (tt := tYes) rfl sc_right.nd (pi_range1 rfl T.rng (pa_cons pe_int pa_nil)) (blkOk_by (N := nRight) (sc := defScope s_right) (by decide +kernel)) (fun _ _ _ _ _ => pg_name (i := 13) sc_right.nd rfl (Or.inl rfl)) (fun _ _ _ _ _ => pts_nil) (fun _ _ _ _ _ => by exact ((pe_call TH.f hr rfl TH.m TH.k TH.b .nil pass0 (pa_cons (pv 0) pa_nil))))) (pg_lst (by rfl) (pgs_cons (pg_name (i := 1) sc_right.nd rfl (Or.inl rfl)) (pgs_cons (pg_name (i := 2) sc_right.nd rfl (Or.inl rfl)) (pgs_cons (pg_name (i := 3) sc_right.nd rfl (Or.inl rfl)) pgs_nil)))))
    (pss_cons (ps_par (i := 4) (j := 5) (by rfl) sc_right.nd rfl rfl (by decide) rfl rfl (pa_cons (pe_call BV.f hr rfl BV.m BV.k BV.b .nil pass0 (pa_cons (pv 1) pa_nil)) (pa_cons (pe_call BP.f hr rfl BP.m BP.k BP.b .nil pass0 (pa_cons (pv 1) pa_nil)) pa_nil)) (by rfl))
    (pss_cons (ps_par (i := 6) (j := 7) (by rfl) sc_right.nd rfl rfl (by decide) rfl rfl (pa_cons (pe_call BT.f hr rfl BT.m BT.k BT.b .nil pass0 (pa_cons (pv 1) (pa_cons (pv 2) pa_nil))) (pa_cons (pe_call OT.f hr rfl OT.m OT.k OT.b .nil pass0 (pa_cons (pv 1) (pa_cons (pv 2) pa_nil))) pa_nil)) (by rfl))
    (pss_cons (ps_set (i := 8) sc_right.nd rfl (Or.inl rfl) (pe_op op_cat (pe_op op_cat (pe_op op_cat (pv 4) (pv 5)) (pv 6)) (pv 7)))
    (pss_cons (ps_for .never (by rfl) (pi_enum rfl T.enu (pa_cons (pv 8) pa_nil)) (pg_tup (by rfl) (pgs_cons (pg_name (i := 9) sc_right.nd rfl (Or.inr rfl)) (pgs_cons (pg_name (i := 10) sc_right.nd rfl (Or.inl rfl)) pgs_nil))) (pss_cons ((ps_setLc (i := 11) (own := [("_law_place", 14)]) (g := gName 14) (tt := tYes) rfl sc_right.nd rfl rfl (sw_true rfl rfl rfl (by decide +kernel)) (pi_range1 rfl T.rng (pa_cons pe_int pa_nil)) (blkOk_by (N := nRight) (sc := defScope s_right) (by decide +kernel)) (fun _ _ _ _ _ => pg_name (i := 14) sc_right.nd rfl (Or.inl rfl)) (fun _ _ _ _ _ => pts_nil) (fun _ _ _ _ _ => by exact (pe_cmpR op_eq (pv 14) (pe_op op_fdiv (pv 9) pe_int) (nomark _))))) (pss_one (ps_if (PW.pt (pw_or (pt_cmpR (op_neD (by exact hu)) (pe_call MA.f (hr.mono (by decide)) rfl MA.m MA.k MA.b .nil pass0 (pa_cons (pv 10) pa_nil)) (pv 11) (nomark _)) (pw_or (pt_not (pt_val (pe_call BA.f (hr.mono (by decide)) rfl BA.m BA.k BA.b .nil pass0 (pa_cons (pv 10) (pa_cons (pe_op op_fdiv (pv 9) pe_int) pa_nil))))) (pw_or1 (pt_not (pt_val (pe_call CA.f (hr.mono (by decide)) rfl CA.m CA.k CA.b .nil pass0 (pa_cons (pv 10) pa_nil)))))))) (pss_one (ps_ret pe_bl)) pss_nil))))
    (pss_cons (ps_set (i := 12) sc_right.nd rfl (Or.inl rfl) (pe_op op_cat (pe_op op_cat (pe_op op_cat (pe_call BV.f hr rfl BV.m BV.k BV.b .nil pass0 (pa_cons (pv 3) pa_nil)) (pe_call BP.f hr rfl BP.m BP.k BP.b .nil pass0 (pa_cons (pv 3) pa_nil))) (pe_call BT.f hr rfl BT.m BT.k BT.b .nil pass0 (pa_cons (pv 3) (pa_cons (pv 1) pa_nil)))) (pe_call OT.f hr rfl OT.m OT.k OT.b .nil pass0 (pa_cons (pv 2) (pa_cons (pv 3) pa_nil)))))
    (pss_cons (ps_if (PW.pt (pw_or (pt_cmpR op_ne (pe_callB call_len_seq (by rfl) T.len boot_len (pa_cons (pv 12) pa_nil)) (pe_callB call_len_seq (by rfl) T.len boot_len (pa_cons (pv 8) pa_nil)) (nomark _)) (pw_or1 (pt_not (pt_val (pe_callG RA.f (by exact hG) hr rfl RA.m RA.k RA.b .nil pass0 (pa_cons (pv 2) (pa_cons (pv 3) pa_nil)))))))) (pss_one (ps_ret pe_bl)) pss_nil)
    (pss_one (ps_ret (pe_callG FR.f (by exact hG) (hr.mono (by decide)) rfl FR.m FR.k FR.b .nil pass0 (pa_cons (pv 4) (pa_cons (pv 5) (pa_cons (pv 6) (pa_cons (pv 7) (pa_cons (pe_tup (pa_cons (pv 1) (pa_cons (pv 2) pa_nil))) pa_nil))))))))))))))), ?_⟩
  refine seq_asg ?_
  refine things_lc (σ := [some (.ref p), none, none, none, none, none, none, none, none, none, none, none, none, none, none]) (fun _ => rfl) (fun _ => rfl) hP fun l a b c H1 hl nl ta' tb' tc' bt1 hP1 => ?_
  have ta := ta'.same (hid_same p H1)
  have tb := tb'.same (hid_same p H1)
  have tc := tc'.same (hid_same p H1)
  refine ⟨l, _, rfl, SqL.of hl, rfl, _, _, rfl, _, _, rfl, _, _, rfl, rfl, ?_⟩
  refine ⟨_, rfl, rfl, fun lv uv H2 s2 hv xv => ⟨_, rfl, rfl, fun lp up H3 s3 hp xp => ⟨_, _, rfl, ?_⟩⟩⟩
  refine ⟨_, rfl, _, rfl, rfl, fun l2 u2 H4 s4 h2 x2 => ⟨_, rfl, _, rfl, rfl, fun lo uo H5 s5 ho xo => ⟨_, _, rfl, ?_⟩⟩⟩
  have nv : uv.length = 28 := xv.len.trans (len_byvalue K a)
  have np : up.length = 16 := xp.len.trans (len_byposition K a)
  have n2 : u2.length = 12 := x2.len
  have no : uo.length = 10 := xo.len
  have s35 := s4.trans s5
  have s25 := s3.trans s35
  refine ⟨_, rfl, _, rfl, lv, lp, uv, up, rfl, rfl, s25 _ _ hv, s35 _ _ hp, small (by omega), fun m1 k1 => ⟨_, rfl, m1, l2, _, u2, rfl, rfl, upd_same, same_upd k1 _ _ (s5 _ _ h2), small (by rw [List.length_append]; omega), fun m2 k2 => ⟨_, rfl, m2, lo, _, uo, rfl, rfl, upd_same, same_upd k2 _ _ (same_upd k1 _ _ ho), small (by rw [List.length_append, List.length_append]; omega), fun m3 k3 => ?_⟩⟩⟩
  have r1 : Same H5 _ := same_upd (o := HO.lst (uv ++ up)) k1
  have r2 := same_upd (o := HO.lst (uv ++ up ++ u2)) k2
  have r3 := same_upd (o := HO.lst (uv ++ up ++ u2 ++ uo)) k3
  have s58 := (r1.trans r2).trans r3
  have hM := upd_same (H := (upd (upd H5 m1 (.lst (uv ++ up))) m2 (.lst (uv ++ up ++ u2)))) (a := m3) (o := HO.lst (uv ++ up ++ u2 ++ uo))
  have xM : XL _ (uv ++ up ++ u2 ++ uo) (psAll K a b) := (((xv.same s25).append (xp.same s35)).append (x2.same s5)).append xo
  have xM := xM.same s58
  generalize hH8 : upd (upd (upd H5 m1 (.lst (uv ++ up))) m2 (.lst (uv ++ up ++ u2))) m3 (.lst (uv ++ up ++ u2 ++ uo)) = H8 at *
  have nM : (uv ++ up ++ u2 ++ uo).length = 66 := by simp only [List.length_append]; omega
  generalize hMM : uv ++ up ++ u2 ++ uo = M at *
  have s28 : Same H2 H8 := s25.trans s58
  have s38 : Same H3 H8 := s35.trans s58
  have s48 : Same H4 H8 := s5.trans s58
  have s18 : Same H1 H8 := s2.trans s28
  refine ⟨_, rfl, m3, M, rfl, SqL.of hM, ?_⟩
  refine for_it walk_enum (fun i σ' H' => Same H8 H' ∧ ∃ x9 x10 x11 : Option V, σ' = [some (.ref p), some a, some b, some c, some (.ref lv), some (.ref lp), some (.ref l2), some (.ref lo), some (.ref m3), x9, x10, x11, none, none, none])
    ⟨Same.refl _, none, none, none, rfl⟩ (fun i σ' H' _ ⟨z, _⟩ => SqL.of (z _ _ hM)) (fun i x σ' H' H'' hi ⟨z, x9, x10, x11, e⟩ y => ?_) (fun σ' H' ⟨z, x9, x10, x11, e⟩ => ?_)
  · subst e
    obtain ⟨T, ix, y, rfl, nT, rfl, e1, e2⟩ := y
    cases e1
    obtain ⟨⟨C, fs⟩, ea, hps, rfl, hx⟩ := xM.get e2
    obtain ⟨hi6, hC⟩ := psAll_at hps
    cases (show C = cA K (i / 2) from hC)
    have hk : i / 2 < 33 := by omega
    have sT := same_upd (o := HO.tup [V.int (i : Int), V.ref ea]) nT
    have hx2 := hx.same (z.trans sT)
    refine ⟨T, _, rfl, SqT.of upd_same, rfl, _, _, rfl, _, _, rfl, rfl, ?_⟩
    refine seq_asg ?_
    refine due_lc (σ := [some (.ref p), some a, some b, some c, some (.ref lv), some (.ref lp), some (.ref l2), some (.ref lo), some (.ref m3), some (.int (i : Int)), some (.ref ea), x11, none, none, none]) (n := i) (fun _ => rfl) (fun _ => rfl) (fun _ => rfl) hi6 fun ld G3 g3 h3 => ?_
    refine if_no (fun Q0 q0 => tor (marks_at rfl rfl hk (hx2.same g3) h3) fun G4 g4 => tor (base_at rfl rfl hk (hx2.same (g3.trans g4))) fun G5 g5 => caught_at rfl hk (hx2.same ((g3.trans g4).trans g5)) _ fun G6 g6 => q0 G6 ((g4.trans g5).trans g6)) fun G7 g7 => ?_
    exact ⟨((z.trans sT).trans g3).trans g7, _, _, _, rfl⟩
  · subst e
    refine ⟨_, rfl, rfl, fun la ua A1 t1 ha xa => ⟨_, rfl, rfl, fun lb ub A2 t2 hb xb => ?_⟩⟩
    have na : ua.length = 28 := xa.len.trans (len_byvalue K c)
    have nb : ub.length = 16 := xb.len.trans (len_byposition K c)
    refine ⟨la, lb, ua, ub, rfl, rfl, t2 _ _ ha, hb, small (by omega), fun n1 j1 => ⟨_, rfl, _, rfl, rfl, fun lc uc A3 t3 hc xc => ?_⟩⟩
    have nc : uc.length = 12 := xc.len
    refine ⟨n1, lc, _, uc, rfl, rfl, t3 _ _ upd_same, hc, small (by rw [List.length_append]; omega), fun n2' j2 => ⟨_, rfl, _, rfl, rfl, fun ld ud A4 t4 hd xd => ?_⟩⟩
    have nd : ud.length = 10 := xd.len
    refine ⟨n2', ld, _, ud, rfl, rfl, t4 _ _ upd_same, hd, small (by rw [List.length_append, List.length_append]; omega), fun n3 j3 => ?_⟩
    have u1 := same_upd (o := HO.lst (ua ++ ub)) j1
    have u2' := same_upd (o := HO.lst (ua ++ ub ++ uc)) j2
    have u3 := same_upd (o := HO.lst (ua ++ ub ++ uc ++ ud)) j3
    have sf : Same H' _ := (((((t1.trans t2).trans u1).trans t3).trans u2').trans t4).trans u3
    have s8f := z.trans sf
    have hN := upd_same (H := A4) (a := n3) (o := HO.lst (ua ++ ub ++ uc ++ ud))
    refine if_no (fun Q0 q0 => tor (len_ne rfl rfl hN (s8f _ _ hM) (by rw [nM]; simp only [List.length_append]; omega)) fun H9 s9 => ?_) fun H10 s10 => ?_
    · exact ⟨_, rfl, _, rfl, b, c, rfl, tb.same ((s18.trans s8f).trans s9), tc.same ((s18.trans s8f).trans s9), fun H11 s11 => ⟨true, rfl, q0 H11 (s9.trans s11)⟩⟩
    · refine ⟨_, rfl, _, rfl, _, rfl, _, rfl, _, rfl, _, rfl, by show 2 ≤ sizeLine; decide, fun th nth => ?_⟩
      have sz := (s8f.trans s10).trans (same_upd (o := HO.tup [a, b]) nth)
      exact ⟨lv, lp, l2, lo, th, uv, up, u2, uo, a, b, rfl, sz _ _ (s28 _ _ hv), sz _ _ (s38 _ _ hp), sz _ _ (s48 _ _ h2), sz _ _ (s58 _ _ ho), upd_same, xv.same (s28.trans sz), xp.same (s38.trans sz), x2.same (s48.trans sz), xo.same (s58.trans sz), ta.same (s18.trans sz), tb.same (s18.trans sz), fun H12 s12 => q H12 (bt1.trans (Same.bt ((s18.trans sz).trans s12)))⟩
end
end K19

end PK19h
section PK19i
set_option maxHeartbeats 4000000
namespace K19
open PySem L2
abbrev s_law : Stmt := top 50
def spLaw (K : PySem.W.Frag) : Sp := fun vs H Q _ => ∃ (a : Addr) (ns : List Int), vs = [.ref a] ∧ SqL K H a (ns.map V.int) ∧ ns.length ≤ 63 ∧ ∀ H', Q (.bl true) H'
theorem sc_law : FnScope ["_law_script", "_law_k"] ["_law_script"] (defScope s_law) := ⟨rfl, rfl, rfl, by decide +kernel, rfl, by decide +kernel, by decide +kernel⟩
theorem boot_max : bootBuiltins "max" = some (.builtin "max") := by decide +kernel
theorem boot_min : bootBuiltins "min" = some (.builtin "min") := by decide +kernel
section
variable {P : Program} {w : World} {K : PySem.W.Frag} {mg : Str → Option Value} {base : Heap} {f fPO fRI : Addr} {fd dPO dRI : FuncData}
theorem ok_law (F : FD K "law" s_law f fd) (T : TT0 mg) (TA : mg "all" = none) (TM : mg "max" = none) (TN : mg "min" = none) (PO : Kn P w K mg base 1 "_law_pot" fPO dPO ["_law_script", "_law_k"] (spPot K)) (RI : KnG P w K mg base 4 "_law_right" fRI dRI ["_law_pot_here"] spRight) :
    FnG P w K mg base CX0 5 f fd ["_law_script"] (spLaw K) := by
  refine F.okG sc_law (fun vs H Q E h => ?_) (fun cdv A outer s H vs Q E hg hr h => ?_)
  · obtain ⟨a, ns, rfl, _⟩ := h
    rfl
  obtain ⟨a, ns, rfl, hS, hl, q⟩ := h
  have hG := deeper_guards (env := PyProof.Rows.envOfC "law" (defScope s_law) s.heap.objs.size f cdv) hg
  refine ⟨_, PSs.nox (pss_one (ps_ret (pe_callB (cr_all rfl) (by rfl) TA boot_all (pa_cons (pe_lc (own := [("_law_k", 1)]) (g := gName 1) (tt := tYes) rfl sc_law.nd
      (pi_range1 rfl T.rng (pa_cons (pe_callB (call_max2 rfl) (by rfl) TM boot_max (pa_cons pe_int (pa_cons (pe_callB (call_min2 rfl) (by rfl) TN boot_min (pa_cons (pe_callB call_len_seq (by rfl) T.len boot_len (pa_cons (pv 0) pa_nil)) (pa_cons pe_int pa_nil))) pa_nil))) pa_nil))
      (blkOk_by (N := ["_law_script", "_law_k"]) (sc := defScope s_law) (by decide +kernel)) (fun _ _ _ _ _ => pg_name (i := 1) sc_law.nd rfl (Or.inl rfl)) (fun _ _ _ _ _ => pts_nil)
      (fun _ _ _ _ _ => by exact (pe_callG RI.f (by exact hG) hr rfl RI.m RI.k RI.b .nil pass0 (pa_cons (pe_call PO.f (hr.mono (by decide)) rfl PO.m PO.k PO.b .nil pass0 (pa_cons (pv 0) (pa_cons (pv 1) pa_nil))) pa_nil)))) pa_nil)))), ?_⟩
  have hl' : (ns.map V.int).length ≤ 63 := by rw [List.length_map]; exact hl
  refine ⟨_, rfl, a, _, rfl, .inl hS, _, _, rfl, _, _, rfl, ?_⟩
  generalize hm : (if (6 : Int) < (((ns.map V.int).length : Nat) : Int) then (6 : Int) else (((ns.map V.int).length : Nat) : Int)) = m
  have m0 : 0 ≤ m ∧ m ≤ 6 := by
    rw [← hm]
    split <;> omega
  generalize hj : (if m > 1 then m else (1 : Int)) = j
  have j0 : 0 ≤ j ∧ j ≤ 6 := by
    rw [← hj]
    split <;> omega
  refine ⟨_, rfl, by omega, by omega, fun D hD => ?_⟩
  refine lc_range (lo := 0) (n := j.toNat) (fun i H' => Same H H' ∧ H' D = some (.lst (List.replicate i (V.bl true)))) ⟨same_upd hD, upd_same⟩ (fun i H1 hi ⟨s1, hD1⟩ => ?_) fun H1 ⟨s1, hD1⟩ => ?_
  · refine ⟨rfl, ?_⟩
    refine iteT (A := tCall spRight [] E0 (tCons (tCall (spPot K) [] E0 (tCons (tVar 0) (tCons (tVar 1) tNil))) tNil) [some (.ref a), some (.int (0 + (i : Int)))] H1 _) (B := Same H H1 ∧ H1 D = some (.lst (List.replicate (i + 1) (V.bl true)))) ?_
    refine ⟨_, rfl, _, rfl, a, ns, 0 + (i : Int), rfl, s1.seq hS, hl, by omega, by omega, fun p x y hp hx hy hy2 => ⟨p, rfl, ⟨x, y, upd_same, hx, hy, hy2⟩, fun H3 b3 => ?_⟩⟩
    have s3 : Same H1 H3 := fun b o e => by
      have n : b ≠ p := ne_of_none e hp
      exact b3 b o n (by rw [upd_ne n]; exact e)
    refine ⟨_, s3 _ _ hD1, by rw [List.length_replicate]; exact Nat.lt_of_lt_of_le (show i < 6 by omega) (show 6 ≤ sizeLine by decide), same_over (s1.trans s3) hD, ?_⟩
    rw [upd_same, List.replicate_succ']
  · refine ⟨D, List.replicate j.toNat true, rfl, SqL.of (by rw [hD1, List.map_replicate]), ?_⟩
    rw [all_true]
    exact q H1
end
end K19

end PK19i
section PK19j
set_option maxHeartbeats 0
namespace K19
open PySem PySem.Spec PyProof.Rows L2
def dI0 : He.DefD := ⟨("InvalidValue", some "__init__"), "__init__", "InvalidValue.__init__", defArgs sI0, defBody sI0, defScope sI0, [], []⟩
def dI1 : He.DefD := ⟨("InvalidPresence", some "__init__"), "__init__", "InvalidPresence.__init__", defArgs sI1, defBody sI1, defScope sI1, [], []⟩
def dI2 : He.DefD := ⟨("NotSettable", some "__init__"), "__init__", "NotSettable.__init__", defArgs sI2, defBody sI2, defScope sI2, [], []⟩
def dI3 : He.DefD := ⟨("NotRemovable", some "__init__"), "__init__", "NotRemovable.__init__", defArgs sI3, defBody sI3, defScope sI3, [], []⟩
def dI4 : He.DefD := ⟨("InvalidChoice", some "__init__"), "__init__", "InvalidChoice.__init__", defArgs sI4, defBody sI4, defScope sI4, [], []⟩
def dI5 : He.DefD := ⟨("InvalidNumber", some "__init__"), "__init__", "InvalidNumber.__init__", defArgs sI5, defBody sI5, defScope sI5, [], []⟩
def dI6 : He.DefD := ⟨("InvalidCommand", some "__init__"), "__init__", "InvalidCommand.__init__", defArgs sI6, defBody sI6, defScope sI6, [], []⟩
def dI7 : He.DefD := ⟨("InvalidName", some "__init__"), "__init__", "InvalidName.__init__", defArgs sI7, defBody sI7, defScope sI7, [], []⟩
def dI8 : He.DefD := ⟨("NameTaken", some "__init__"), "__init__", "NameTaken.__init__", defArgs sI8, defBody sI8, defScope sI8, [], []⟩
def dI9 : He.DefD := ⟨("UnknownProgram", some "__init__"), "__init__", "UnknownProgram.__init__", defArgs sI9, defBody sI9, defScope sI9, [], []⟩
def dI10 : He.DefD := ⟨("UnknownOwn", some "__init__"), "__init__", "UnknownOwn.__init__", defArgs sI10, defBody sI10, defScope sI10, [], []⟩
def dI11 : He.DefD := ⟨("UnknownField", some "__init__"), "__init__", "UnknownField.__init__", defArgs sI11, defBody sI11, defScope sI11, [], []⟩
def dI12 : He.DefD := ⟨("UnknownList", some "__init__"), "__init__", "UnknownList.__init__", defArgs sI12, defBody sI12, defScope sI12, [], []⟩
def dI13 : He.DefD := ⟨("UnknownName", some "__init__"), "__init__", "UnknownName.__init__", defArgs sI13, defBody sI13, defScope sI13, [], []⟩
def dI14 : He.DefD := ⟨("InvalidSet", some "__init__"), "__init__", "InvalidSet.__init__", defArgs sI14, defBody sI14, defScope sI14, [], []⟩
def dI15 : He.DefD := ⟨("InvalidMap", some "__init__"), "__init__", "InvalidMap.__init__", defArgs sI15, defBody sI15, defScope sI15, [], []⟩
def dI16 : He.DefD := ⟨("InvalidStep", some "__init__"), "__init__", "InvalidStep.__init__", defArgs sI16, defBody sI16, defScope sI16, [], []⟩
def dI17 : He.DefD := ⟨("InvalidRow", some "__init__"), "__init__", "InvalidRow.__init__", defArgs sI17, defBody sI17, defScope sI17, [], []⟩
def dI18 : He.DefD := ⟨("InvalidList", some "__init__"), "__init__", "InvalidList.__init__", defArgs sI18, defBody sI18, defScope sI18, [], []⟩
def dI19 : He.DefD := ⟨("InvalidWish", some "__init__"), "__init__", "InvalidWish.__init__", defArgs sI19, defBody sI19, defScope sI19, [], []⟩
def dI20 : He.DefD := ⟨("InvalidOffer", some "__init__"), "__init__", "InvalidOffer.__init__", defArgs sI20, defBody sI20, defScope sI20, [], []⟩
def dI21 : He.DefD := ⟨("InvalidCopies", some "__init__"), "__init__", "InvalidCopies.__init__", defArgs sI21, defBody sI21, defScope sI21, [], []⟩
def dI22 : He.DefD := ⟨("InvalidDocument", some "__init__"), "__init__", "InvalidDocument.__init__", defArgs sI22, defBody sI22, defScope sI22, [], []⟩
def dI23 : He.DefD := ⟨("InvalidEdit", some "__init__"), "__init__", "InvalidEdit.__init__", defArgs sI23, defBody sI23, defScope sI23, [], []⟩
def dI24 : He.DefD := ⟨("InvalidOwn", some "__init__"), "__init__", "InvalidOwn.__init__", defArgs sI24, defBody sI24, defScope sI24, [], []⟩
def dI25 : He.DefD := ⟨("InvalidBeginnings", some "__init__"), "__init__", "InvalidBeginnings.__init__", defArgs sI25, defBody sI25, defScope sI25, [], []⟩
def dI26 : He.DefD := ⟨("InvalidProgram", some "__init__"), "__init__", "InvalidProgram.__init__", defArgs sI26, defBody sI26, defScope sI26, [], []⟩
def dI27 : He.DefD := ⟨("InvalidWorld", some "__init__"), "__init__", "InvalidWorld.__init__", defArgs sI27, defBody sI27, defScope sI27, [], []⟩
def dI28 : He.DefD := ⟨("InvalidWrite", some "__init__"), "__init__", "InvalidWrite.__init__", defArgs sI28, defBody sI28, defScope sI28, [], []⟩
def dI29 : He.DefD := ⟨("InvalidText", some "__init__"), "__init__", "InvalidText.__init__", defArgs sI29, defBody sI29, defScope sI29, [], []⟩
def dI30 : He.DefD := ⟨("NothingToUndo", some "__init__"), "__init__", "NothingToUndo.__init__", defArgs sI30, defBody sI30, defScope sI30, [], []⟩
def dI31 : He.DefD := ⟨("Unlike", some "__init__"), "__init__", "Unlike.__init__", defArgs sI31, defBody sI31, defScope sI31, [], []⟩
def dI32 : He.DefD := ⟨("TooMany", some "__init__"), "__init__", "TooMany.__init__", defArgs sI32, defBody sI32, defScope sI32, [], []⟩
def dL0 : He.DefD := ⟨("_law_pot", none), "_law_pot", "_law_pot", defArgs (top 36), defBody (top 36), defScope (top 36), [], []⟩
def dL1 : He.DefD := ⟨("_law_draw", none), "_law_draw", "_law_draw", defArgs (top 37), defBody (top 37), defScope (top 37), [], []⟩
def dL2 : He.DefD := ⟨("_law_pick", none), "_law_pick", "_law_pick", defArgs (top 38), defBody (top 38), defScope (top 38), [], []⟩
def dL3 : He.DefD := ⟨("_law_thing", none), "_law_thing", "_law_thing", defArgs (top 39), defBody (top 39), defScope (top 39), [], []⟩
def dL4 : He.DefD := ⟨("_law_by_value", none), "_law_by_value", "_law_by_value", defArgs (top 40), defBody (top 40), defScope (top 40), [], []⟩
def dL5 : He.DefD := ⟨("_law_by_position", none), "_law_by_position", "_law_by_position", defArgs (top 41), defBody (top 41), defScope (top 41), [], []⟩
def dL6 : He.DefD := ⟨("_law_by_two", none), "_law_by_two", "_law_by_two", defArgs (top 42), defBody (top 42), defScope (top 42), [], []⟩
def dL7 : He.DefD := ⟨("_law_others", none), "_law_others", "_law_others", defArgs (top 43), defBody (top 43), defScope (top 43), [], []⟩
def dL8 : He.DefD := ⟨("_law_marks", none), "_law_marks", "_law_marks", defArgs (top 44), defBody (top 44), defScope (top 44), [], []⟩
def dL9 : He.DefD := ⟨("_law_base_right", none), "_law_base_right", "_law_base_right", defArgs (top 45), defBody (top 45), defScope (top 45), [], []⟩
def dL10 : He.DefD := ⟨("_law_caught", none), "_law_caught", "_law_caught", defArgs (top 46), defBody (top 46), defScope (top 46), [], []⟩
def dL11 : He.DefD := ⟨("_law_fields_right", none), "_law_fields_right", "_law_fields_right", defArgs (top 47), defBody (top 47), defScope (top 47), [], []⟩
def dL12 : He.DefD := ⟨("_law_raised", none), "_law_raised", "_law_raised", defArgs (top 48), defBody (top 48), defScope (top 48), [], []⟩
def dL13 : He.DefD := ⟨("_law_right", none), "_law_right", "_law_right", defArgs (top 49), defBody (top 49), defScope (top 49), [], []⟩
def dL14 : He.DefD := ⟨("law", none), "law", "law", defArgs (top 50), defBody (top 50), defScope (top 50), [], []⟩
def fnA : List He.DefD := [dI0, dI1, dI2, dI3, dI4, dI5, dI6, dI7, dI8, dI9, dI10, dI11, dI12, dI13, dI14, dI15, dI16, dI17, dI18, dI19, dI20, dI21, dI22, dI23, dI24, dI25, dI26, dI27, dI28, dI29, dI30, dI31, dI32]
def fnB : List He.DefD := [dL0, dL1, dL2, dL3, dL4, dL5, dL6, dL7, dL8, dL9, dL10, dL11, dL12, dL13, dL14]
def fn : List He.DefD := fnA ++ fnB
def frees : List Str := ["isinstance", "LookupError", "RuntimeError", "ArithmeticError", "ValueError", "repr", "all", "len", "max", "abs", "int", "divmod", "range", "enumerate", "min"]
def glos : List Str := ["KeptError", "_law_pot", "_law_draw", "_law_pick", "_law_thing", "_law_by_value", "_law_by_position", "_law_by_two", "_law_others", "_law_marks", "_law_base_right", "_law_caught", "_law_fields_right", "_law_raised", "_law_right", "law"]
def r33 : List Nat := List.range 33
def exA (K : PySem.W.Frag) (k : Nat) : Bool := xcB K (cA K k) && (He.eqO (PySem.W.nsIn K mainGlobals (cn k)) (some (some (.ref (cA K k)))) && (He.eqO (PySem.W.findIn K (.ref (cA K k)) "__init__") (some (some (.ref (fA K k)))) && (decide (PySem.W.typeIn K (.ref (fA K k)) = some (.type "function")) && allF.all fun f => He.eqO (PySem.W.findIn K (.ref (cA K k)) f) (some none))))
def exT (K : PySem.W.Frag) (k : Nat) : Bool := r33.all fun i => decide (PySem.W.kitOne K (.ref (cA K k)) (.ref (cA K i)) = some (Nat.beq i k))
def exU (K : PySem.W.Frag) (k : Nat) : Bool := decide (PySem.W.kitOne K (.ref (cA K k)) (.ref (He.ga K "KeptError")) = some (Nat.beq (grp k) 0)) && (decide (PySem.W.kitOne K (.ref (cA K k)) (.type "LookupError") = some (Nat.beq (grp k) 1)) && (decide (PySem.W.kitOne K (.ref (cA K k)) (.type "RuntimeError") = some (Nat.beq (grp k) 2)) &&
  (decide (PySem.W.kitOne K (.ref (cA K k)) (.type "ArithmeticError") = some (Nat.beq (grp k) 3)) && (decide (PySem.W.kitOne K (.ref (cA K k)) (.type "ValueError") = some (Nat.beq (grp k) 0)) &&
  decide (PySem.W.kitAny K (.ref (cA K k)) [.ref (He.ga K "KeptError"), .type "LookupError", .type "RuntimeError", .type "ArithmeticError"] = some true)))))
def exR (K : PySem.W.Frag) : Bool := decide (PySem.W.exmOne K (.ref (cA K 26)) (.ref (He.ga K "KeptError")) = some true) && (decide (PySem.W.exmOne K (.ref (cA K 12)) (.ref (cA K 12)) = some true) && decide (PySem.W.exmOne K (.ref (cA K 32)) (.ref (cA K 32)) = some true))
def exK (K : PySem.W.Frag) : Bool := (r33.all (exA K)) && ((r33.all (exT K)) && ((r33.all (exU K)) && (exR K && ((frees.all fun x => He.eqO (PySem.W.nsIn K mainGlobals x) (some none)) && ((glos.all fun x => He.eqO (PySem.W.nsIn K mainGlobals x) (some (some (.ref (He.ga K x))))) && noMods K)))))
abbrev R : PySem.W.OpenRow := PySem.W.OpenLaw.row PySem.Challenge.rw_keptedits_k19_errors_created
abbrev hk : PySem.W.Hook := He.hookY 5 fn exK
def ob (s : PySem.W.SharedT) : Bool × List He.FnW := He.obsY 5 fn exK (HandSHeadRun.getT s)
theorem ob_eq (s : PySem.W.SharedT) : ob s = hk.obs s.abs := He.obsY_eq (HandSHeadRun.getT_eq s)
def looseA : List Str := ["KeptError", "InvalidValue", "InvalidSet", "InvalidMap", "InvalidOwn", "InvalidWrite", "InvalidProgram", "InvalidWorld", "InvalidDocument", "InvalidEdit", "InvalidStep", "InvalidRow", "InvalidList", "InvalidPresence", "InvalidBeginnings", "NotSettable", "NotRemovable", "InvalidWish", "InvalidOffer", "InvalidChoice", "InvalidCopies", "InvalidNumber", "InvalidText", "InvalidCommand", "InvalidName"]
def looseB : List Str := ["NameTaken", "NothingToUndo", "UnknownProgram", "UnknownOwn", "UnknownField", "UnknownList", "UnknownName", "Unlike", "TooMany", "_law_pot", "_law_draw", "_law_pick", "_law_thing", "_law_by_value", "_law_by_position", "_law_by_two", "_law_others", "_law_marks", "_law_base_right", "_law_caught", "_law_fields_right", "_law_raised", "_law_right"]
def loose : List Str := looseA ++ looseB
theorem run (w : World) : HandSHeadRun.RunEq R (PySem.W.view R.prog [50]) hk ob 9000 loose w := by
  intro os
  kernel_rfl
end K19

end PK19j
section PK19k
set_option maxHeartbeats 0
namespace K19
open PySem PySem.Spec PyProof.Rows L2
theorem in33 {k : Nat} (h : k < 33) : k ∈ r33 := List.mem_range.mpr h
structure Facts (K : PySem.W.Frag) : Prop where
  a : ∀ k, k < 33 → exA K k = true
  t : ∀ k, k < 33 → exT K k = true
  u : ∀ k, k < 33 → exU K k = true
  r : exR K = true
  f : ∀ x, x ∈ frees → He.eqO (PySem.W.nsIn K mainGlobals x) (some none) = true
  g : ∀ x, x ∈ glos → He.eqO (PySem.W.nsIn K mainGlobals x) (some (some (.ref (He.ga K x)))) = true
  m : noMods K = true
theorem facts_of {K : PySem.W.Frag} (h : exK K = true) : Facts K := by
  obtain ⟨h1, h⟩ := Bool.and_eq_true_iff.mp h
  obtain ⟨h2, h⟩ := Bool.and_eq_true_iff.mp h
  obtain ⟨h3, h⟩ := Bool.and_eq_true_iff.mp h
  obtain ⟨h4, h⟩ := Bool.and_eq_true_iff.mp h
  obtain ⟨h5, h⟩ := Bool.and_eq_true_iff.mp h
  obtain ⟨h6, h7⟩ := Bool.and_eq_true_iff.mp h
  exact ⟨fun k hk => List.all_eq_true.mp h1 k (in33 hk), fun k hk => List.all_eq_true.mp h2 k (in33 hk), fun k hk => List.all_eq_true.mp h3 k (in33 hk), h4, fun x hx => List.all_eq_true.mp h5 x hx, fun x hx => List.all_eq_true.mp h6 x hx, h7⟩
theorem beq_dec (i k : Nat) : Nat.beq i k = decide ((i : Int) = (k : Int)) := by
  cases e : Nat.beq i k with
  | true =>
    have z := Nat.eq_of_beq_eq_true e
    subst z
    exact (decide_eq_true rfl).symm
  | false =>
    have z := Nat.ne_of_beq_eq_false e
    exact (decide_eq_false (fun q => z (by omega))).symm
theorem beq_dec0 (i k : Nat) : Nat.beq i k = decide (i = k) := by
  cases e : Nat.beq i k with
  | true => exact (decide_eq_true (Nat.eq_of_beq_eq_true e)).symm
  | false => exact (decide_eq_false (Nat.ne_of_beq_eq_false e)).symm
section
variable {K : PySem.W.Frag} {h : Heap} {mg : Str → Option Value}
theorem free_at (X : K.In h) (G : h.Ns mainGlobals mg) (c : Facts K) {x : Str} (hx : x ∈ frees) : mg x = none := PySem.W.mg_none_of X G (He.eqO_ok (c.f x hx))
theorem glo_at (X : K.In h) (G : h.Ns mainGlobals mg) (c : Facts K) {x : Str} (hx : x ∈ glos) : mg x = some (.ref (He.ga K x)) := PySem.W.mg_of X G (He.eqO_ok (c.g x hx))
theorem cl_at (X : K.In h) (G : h.Ns mainGlobals mg) (c : Facts K) (k : Nat) (hk : k < 33) : Cl K mg k := by
  obtain ⟨h1, z⟩ := Bool.and_eq_true_iff.mp (c.a k hk)
  obtain ⟨h2, z⟩ := Bool.and_eq_true_iff.mp z
  obtain ⟨h3, z⟩ := Bool.and_eq_true_iff.mp z
  obtain ⟨h4, h5⟩ := Bool.and_eq_true_iff.mp z
  exact ⟨xcB_ok h1, PySem.W.mg_of X G (He.eqO_ok h2), He.eqO_ok h3, of_decide_eq_true h4, fun f hf => He.eqO_ok (List.all_eq_true.mp h5 f hf)⟩
theorem ti_at (X : K.In h) (G : h.Ns mainGlobals mg) (c : Facts K) : TI K mg := by
  have U : ∀ k, k < 33 → _ := fun k hk => c.u k hk
  refine ⟨fun k i hk hi => ?_, glo_at X G c (x := "KeptError") (by decide +kernel), fun k hk => ?_, fun k hk => ?_, fun k hk => ?_, fun k hk => ?_, fun k hk => ?_, fun k hk => ?_, free_at X G c (by decide +kernel), free_at X G c (by decide +kernel), free_at X G c (by decide +kernel), free_at X G c (by decide +kernel)⟩
  · rw [← beq_dec]
    exact of_decide_eq_true (List.all_eq_true.mp (c.t k hk) i (in33 hi))
  all_goals
    obtain ⟨h1, z⟩ := Bool.and_eq_true_iff.mp (c.u k hk)
    obtain ⟨h2, z⟩ := Bool.and_eq_true_iff.mp z
    obtain ⟨h3, z⟩ := Bool.and_eq_true_iff.mp z
    obtain ⟨h4, z⟩ := Bool.and_eq_true_iff.mp z
    obtain ⟨h5, h6⟩ := Bool.and_eq_true_iff.mp z
    first
      | exact of_decide_eq_true h6
      | (rw [← beq_dec0]; first | exact of_decide_eq_true h1 | exact of_decide_eq_true h2 | exact of_decide_eq_true h3 | exact of_decide_eq_true h4 | exact of_decide_eq_true h5)
theorem tr_at (c : Facts K) : TR K mg := by
  obtain ⟨h1, z⟩ := Bool.and_eq_true_iff.mp c.r
  obtain ⟨h2, h3⟩ := Bool.and_eq_true_iff.mp z
  exact ⟨of_decide_eq_true h1, of_decide_eq_true h2, of_decide_eq_true h3⟩
end
theorem facts {P : Program} {w : World} {K : PySem.W.Frag} {h : Heap} {mg : Str → Option Value} {f : Addr} (X : K.In h) (G : h.Ns mainGlobals mg) (hfa : mg ("law" : Str) = some (.ref f)) (cc : He.SaysY fn exK K) :
    ∃ fd : FuncData, (∀ (s : Shared) (v : Value), BindsTo s fd ⟨[v], []⟩ [("_law_script", v)]) ∧ ∀ base : Heap, K.In base → base.Ns mainGlobals mg → FnG P w K mg base CX0 5 f fd ["_law_script"] (spLaw K) := by
  have c := facts_of cc.more
  obtain ⟨g0, G0⟩ := cc.def_ 0 (d := dI0) rfl
  obtain ⟨g1, G1⟩ := cc.def_ 1 (d := dI1) rfl
  obtain ⟨g2, G2⟩ := cc.def_ 2 (d := dI2) rfl
  obtain ⟨g3, G3⟩ := cc.def_ 3 (d := dI3) rfl
  obtain ⟨g4, G4⟩ := cc.def_ 4 (d := dI4) rfl
  obtain ⟨g5, G5⟩ := cc.def_ 5 (d := dI5) rfl
  obtain ⟨g6, G6⟩ := cc.def_ 6 (d := dI6) rfl
  obtain ⟨g7, G7⟩ := cc.def_ 7 (d := dI7) rfl
  obtain ⟨g8, G8⟩ := cc.def_ 8 (d := dI8) rfl
  obtain ⟨g9, G9⟩ := cc.def_ 9 (d := dI9) rfl
  obtain ⟨g10, G10⟩ := cc.def_ 10 (d := dI10) rfl
  obtain ⟨g11, G11⟩ := cc.def_ 11 (d := dI11) rfl
  obtain ⟨g12, G12⟩ := cc.def_ 12 (d := dI12) rfl
  obtain ⟨g13, G13⟩ := cc.def_ 13 (d := dI13) rfl
  obtain ⟨g14, G14⟩ := cc.def_ 14 (d := dI14) rfl
  obtain ⟨g15, G15⟩ := cc.def_ 15 (d := dI15) rfl
  obtain ⟨g16, G16⟩ := cc.def_ 16 (d := dI16) rfl
  obtain ⟨g17, G17⟩ := cc.def_ 17 (d := dI17) rfl
  obtain ⟨g18, G18⟩ := cc.def_ 18 (d := dI18) rfl
  obtain ⟨g19, G19⟩ := cc.def_ 19 (d := dI19) rfl
  obtain ⟨g20, G20⟩ := cc.def_ 20 (d := dI20) rfl
  obtain ⟨g21, G21⟩ := cc.def_ 21 (d := dI21) rfl
  obtain ⟨g22, G22⟩ := cc.def_ 22 (d := dI22) rfl
  obtain ⟨g23, G23⟩ := cc.def_ 23 (d := dI23) rfl
  obtain ⟨g24, G24⟩ := cc.def_ 24 (d := dI24) rfl
  obtain ⟨g25, G25⟩ := cc.def_ 25 (d := dI25) rfl
  obtain ⟨g26, G26⟩ := cc.def_ 26 (d := dI26) rfl
  obtain ⟨g27, G27⟩ := cc.def_ 27 (d := dI27) rfl
  obtain ⟨g28, G28⟩ := cc.def_ 28 (d := dI28) rfl
  obtain ⟨g29, G29⟩ := cc.def_ 29 (d := dI29) rfl
  obtain ⟨g30, G30⟩ := cc.def_ 30 (d := dI30) rfl
  obtain ⟨g31, G31⟩ := cc.def_ 31 (d := dI31) rfl
  obtain ⟨g32, G32⟩ := cc.def_ 32 (d := dI32) rfl
  obtain ⟨d0, D0⟩ := cc.def_ 33 (d := dL0) rfl
  obtain ⟨d1, D1⟩ := cc.def_ 34 (d := dL1) rfl
  obtain ⟨d2, D2⟩ := cc.def_ 35 (d := dL2) rfl
  obtain ⟨d3, D3⟩ := cc.def_ 36 (d := dL3) rfl
  obtain ⟨d4, D4⟩ := cc.def_ 37 (d := dL4) rfl
  obtain ⟨d5, D5⟩ := cc.def_ 38 (d := dL5) rfl
  obtain ⟨d6, D6⟩ := cc.def_ 39 (d := dL6) rfl
  obtain ⟨d7, D7⟩ := cc.def_ 40 (d := dL7) rfl
  obtain ⟨d8, D8⟩ := cc.def_ 41 (d := dL8) rfl
  obtain ⟨d9, D9⟩ := cc.def_ 42 (d := dL9) rfl
  obtain ⟨d10, D10⟩ := cc.def_ 43 (d := dL10) rfl
  obtain ⟨d11, D11⟩ := cc.def_ 44 (d := dL11) rfl
  obtain ⟨d12, D12⟩ := cc.def_ 45 (d := dL12) rfl
  obtain ⟨d13, D13⟩ := cc.def_ 46 (d := dL13) rfl
  obtain ⟨d14, D14⟩ := cc.def_ 47 (d := dL14) rfl
  have fr : ∀ x, x ∈ frees → mg x = none := fun x hx => free_at X G c hx
  have gl : ∀ x, x ∈ glos → mg x = some (.ref (He.ga K x)) := fun x hx => glo_at X G c hx
  have TXf : TX K mg := ⟨cl_at X G c, fr _ (by decide +kernel), ⟨g0, G0⟩, ⟨g1, G1⟩, ⟨g2, G2⟩, ⟨g3, G3⟩, ⟨g4, G4⟩, ⟨g5, G5⟩, ⟨g6, G6⟩, ⟨g7, G7⟩, ⟨g8, G8⟩, ⟨g9, G9⟩, ⟨g10, G10⟩, ⟨g11, G11⟩, ⟨g12, G12⟩, ⟨g13, G13⟩, ⟨g14, G14⟩, ⟨g15, G15⟩, ⟨g16, G16⟩, ⟨g17, G17⟩, ⟨g18, G18⟩, ⟨g19, G19⟩, ⟨g20, G20⟩, ⟨g21, G21⟩, ⟨g22, G22⟩, ⟨g23, G23⟩, ⟨g24, G24⟩, ⟨g25, G25⟩, ⟨g26, G26⟩, ⟨g27, G27⟩, ⟨g28, G28⟩, ⟨g29, G29⟩, ⟨g30, G30⟩, ⟨g31, G31⟩, ⟨g32, G32⟩⟩
  have TIf := ti_at X G c
  have TRf : TR K mg := tr_at c
  have TFf : TF K mg := ⟨fr _ (by decide +kernel), fr _ (by decide +kernel), c.m⟩
  have TPf : TxtP K mg := ⟨fr _ (by decide +kernel), fr _ (by decide +kernel), fr _ (by decide +kernel), fr _ (by decide +kernel), fr _ (by decide +kernel)⟩
  have T0f : TT0 mg := ⟨fr _ (by decide +kernel), fr _ (by decide +kernel), fr _ (by decide +kernel)⟩
  have b0 : Binds K d0 ["_law_script", "_law_k"] [] := D0.bindsN fun _ _ _ _ _ _ us hl => match us, hl with | [_, _], _ => rfl
  have b1 : Binds K d1 ["_law_pot_here", "_law_many"] [] := D1.bindsN fun _ _ _ _ _ _ us hl => match us, hl with | [_, _], _ => rfl
  have b2 : Binds K d2 ["_law_pot_here", "_law_some"] [] := D2.bindsN fun _ _ _ _ _ _ us hl => match us, hl with | [_, _], _ => rfl
  have b3 : Binds K d3 ["_law_pot_here"] [] := D3.bindsN fun _ _ _ _ _ _ us hl => match us, hl with | [_], _ => rfl
  have b4 : Binds K d4 ["_law_one"] [] := D4.bindsN fun _ _ _ _ _ _ us hl => match us, hl with | [_], _ => rfl
  have b5 : Binds K d5 ["_law_one"] [] := D5.bindsN fun _ _ _ _ _ _ us hl => match us, hl with | [_], _ => rfl
  have b6 : Binds K d6 ["_law_one", "_law_two"] [] := D6.bindsN fun _ _ _ _ _ _ us hl => match us, hl with | [_, _], _ => rfl
  have b7 : Binds K d7 ["_law_one", "_law_two"] [] := D7.bindsN fun _ _ _ _ _ _ us hl => match us, hl with | [_, _], _ => rfl
  have b8 : Binds K d8 ["_law_made"] [] := D8.bindsN fun _ _ _ _ _ _ us hl => match us, hl with | [_], _ => rfl
  have b9 : Binds K d9 ["_law_made", "_law_place"] [] := D9.bindsN fun _ _ _ _ _ _ us hl => match us, hl with | [_, _], _ => rfl
  have b10 : Binds K d10 ["_law_made"] [] := D10.bindsN fun _ _ _ _ _ _ us hl => match us, hl with | [_], _ => rfl
  have b11 : Binds K d11 ["_law_by_value_here", "_law_by_position_here", "_law_by_two_here", "_law_others_here", "_law_things"] [] := D11.bindsN fun _ _ _ _ _ _ us hl => match us, hl with | [_, _, _, _, _], _ => rfl
  have b12 : Binds K d12 ["_law_one", "_law_two"] [] := D12.bindsN fun _ _ _ _ _ _ us hl => match us, hl with | [_, _], _ => rfl
  have b13 : Binds K d13 ["_law_pot_here"] [] := D13.bindsN fun _ _ _ _ _ _ us hl => match us, hl with | [_], _ => rfl
  have e := hfa.symm.trans (gl "law" (by decide +kernel))
  cases e
  have b := FunD.bindsA (ps := ["_law_script"]) D14 fun _ _ _ _ _ _ us hl => match us, hl with | [_], _ => rfl
  refine ⟨d14, fun s v => b s [v] rfl, fun base _ _ => ?_⟩
  have PO : Kn P w K mg base 1 "_law_pot" _ d0 _ (spPot K) := ⟨ok_pot D0 TPf, b0, gl _ (by decide +kernel), D0.kp⟩
  have DR := ok_draw (P := P) (w := w) (base := base) D1 TPf
  have PI := ok_pick (P := P) (w := w) (base := base) D2 TPf DR b1 (gl _ (by decide +kernel)) D1.kp
  have TH : Kn P w K mg base 3 "_law_thing" _ d3 _ spThing := ⟨ok_thing D3 PI b2 (gl _ (by decide +kernel)) D2.kp, b3, gl _ (by decide +kernel), D3.kp⟩
  have BV : Kn P w K mg base 3 "_law_by_value" _ d4 _ _ := ⟨ok_byvalue D4 TXf, b4, gl _ (by decide +kernel), D4.kp⟩
  have BP : Kn P w K mg base 3 "_law_by_position" _ d5 _ _ := ⟨ok_byposition D5 TXf, b5, gl _ (by decide +kernel), D5.kp⟩
  have BT : Kn P w K mg base 3 "_law_by_two" _ d6 _ _ := ⟨ok_bytwo D6 TXf, b6, gl _ (by decide +kernel), D6.kp⟩
  have OT : Kn P w K mg base 3 "_law_others" _ d7 _ _ := ⟨ok_others D7 TXf, b7, gl _ (by decide +kernel), D7.kp⟩
  have MA : Kn P w K mg base 1 "_law_marks" _ d8 _ _ := ⟨ok_marks D8 TXf TIf, b8, gl _ (by decide +kernel), D8.kp⟩
  have BA : Kn P w K mg base 1 "_law_base_right" _ d9 _ _ := ⟨ok_base D9 TXf TIf, b9, gl _ (by decide +kernel), D9.kp⟩
  have CA : Kn P w K mg base 1 "_law_caught" _ d10 _ _ := ⟨ok_caught D10 TXf TIf, b10, gl _ (by decide +kernel), D10.kp⟩
  have FR : KnG P w K mg base 1 "_law_fields_right" _ d11 _ _ := ⟨ok_fields D11 TXf TFf, b11, gl _ (by decide +kernel), D11.kp⟩
  have RA : KnG P w K mg base 3 "_law_raised" _ d12 _ _ := ⟨ok_raised D12 TXf TFf TIf TRf, b12, gl _ (by decide +kernel), D12.kp⟩
  have RI : KnG P w K mg base 4 "_law_right" _ d13 _ _ := ⟨ok_right D13 T0f TH BV BP BT OT MA BA CA RA FR, b13, gl _ (by decide +kernel), D13.kp⟩
  exact ok_law D14 T0f (fr _ (by decide +kernel)) (fr _ (by decide +kernel)) (fr _ (by decide +kernel)) PO RI
end K19
open PySem PySem.W PySem.Calls PyProof.Rows
theorem PySem.Challenge.cw_keptedits_k19_errors_created_holds : PySem.Challenge.rw_keptedits_k19_errors_created.Holds := by
  w_on; o_law
  refine HandSHeadRun.head_any (r := OpenLaw.row PySem.Challenge.rw_keptedits_k19_errors_created) (q := view (OpenLaw.row PySem.Challenge.rw_keptedits_k19_errors_created).prog [50]) (H := K19.hk) (ob := K19.ob) (M := 9000) (loose := K19.loose) (d := HandSHeadRun.topDef (OpenLaw.row PySem.Challenge.rw_keptedits_k19_errors_created).prog 50) (kwd := []) K19.ob_eq
    (by kernel_rfl) (fun s => by kernel_rfl) K19.run (by kernel_rfl) (by kernel_rfl) (by kernel_rfl) (by rfl) (by first | assumption | decide +kernel) (by decide +kernel) ⟨rfl, rfl, rfl, rfl, rfl, by decide +kernel⟩ ?hw ?hc
  case hw => w_witness2
  case hc =>
    refine L2.walk_ofG (l := PySem.Challenge.rw_keptedits_k19_errors_created) (n := 63) (k := 5) (x := "_law_script") (CX := fun _ => L2.CX0) rfl (by decide) (by kernel_rfl) ⟨rfl, by decide, by decide⟩ ?F (fun _ _ _ _ _ z => z)
    intro w mg fa h Y G hmg0
    obtain ⟨K, KX, c⟩ := Y
    have hmg : mg ("law" : PySem.Str) = some (.ref fa) := by
      have e : (HandSHeadRun.topDef (OpenLaw.row PySem.Challenge.rw_keptedits_k19_errors_created).prog 50).name = ("law" : PySem.Str) := by kernel_rfl
      rw [← e]
      exact hmg0
    obtain ⟨fd, hb, hF⟩ := K19.facts (P := (PySem.Challenge.rw_keptedits_k19_errors_created).prog) (w := w) KX G hmg c
    exact ⟨K, fd, K19.spLaw K, KX, hb, fun H a ns hl _ hS => ⟨a, ns, rfl, hS, hl, fun _ => rfl⟩, hF⟩

end PK19k
